/-
  A number that is kept low; blanks ahead of references; a text without a < that is parted at & and ;. On lists of bytes. Conditions: none.
  What a digit is worth: the program's and the document's. Conditions: the base is 10 or 16.
  utf8.AppendRune onto a row of bytes of the call's own, at a character. Conditions: the number is a character; the row is short.
  utf.Bytes: the bytes of all, if each number is a character; else nothing, and false. Conditions: the list is short.
-/
import Derived.Test.YteinegfbpfhflaaGreatDoorM23
import Derived.Test.YteinegfbpfhflaaGreatDoorM10
import Derived.Test.YteinegfbpfhflaaGreatDoorM00
import Derived.WalkKit
import Derived.Lib.Hide
namespace Go.Proofs.YteinegfbpfhflaaGreatDoor
set_option linter.unusedVariables false
set_option maxHeartbeats 2000000
set_option maxRecDepth 100000
def dv(c:UInt8):Nat:=(tJ c).getD 1114112
theorem Fw{c:UInt8}{d:Nat}(h:tJ c=some d):d<16:=by
 unfold tJ at h
 split at h
 ·injection h;omega
 ·split at h
  ·injection h;omega
  ·split at h
   ·injection h;omega
   ·cases h
theorem xU{base:Nat}(hb:base<=16)(c:UInt8):xV base c=if dv c<base then some (dv c)else none:=by
 unfold xV dv;cases h:tJ c with
 |none=>simp;omega
 |some d=>simp
theorem F1(c:UInt8):dv c<=1114112:=by
 unfold dv;cases h:tJ c with
 |none=>simp
 |some d=>have:=Fw h;simp;omega
def mg(base:Nat):Nat->List UInt8->Option Nat
 |n,[]=>some n
 |n,c::r=>match xV base c with|none=>none|some d=>mg base (min (n*base+d) 1114112) r
theorem jc(base n:Nat)(c:UInt8)(r:List UInt8):mg base n (c::r)=match xV base c with|none=>none|some d=>mg base (min (n*base+d) 1114112) r:=rfl
def uZ(n k:Nat):Prop:=n=k∨(1114112<=n/\k=1114112)
theorem xw{base n k d:Nat}(hb:1<=base)(h:uZ n k):uZ (n*base+d) (min (k*base+d) 1114112):=by
 have h2:n<=n*base:=Nat.le_mul_of_pos_right n hb;have h3:k<=k*base:=Nat.le_mul_of_pos_right k hb;rcases h with rfl|⟨h1,rfl⟩
 ·rcases Nat.le_total (n*base+d) 1114112 with h|h
  ·rw[Nat.min_eq_left h];exact .inl rfl
  ·rw[Nat.min_eq_right h];exact .inr ⟨h,rfl⟩
 ·rw[Nat.min_eq_right (by omega)]
  exact .inr ⟨by omega,rfl⟩
theorem yJ{base:Nat}(hb:1<=base):∀{s:List UInt8} {n k:Nat},uZ n k->(pG base n s=none/\mg base k s=none)∨∃m j,pG base n s=some m/\mg base k s=some j/\uZ m j
 | [],n,k,h => .inr ⟨n,k,rfl,rfl,h⟩
 |c::r,n,k,h=>by
  rw[ng,jc];cases xV base c with
  |none=>exact .inl ⟨rfl,rfl⟩
  |some d=>exact yJ hb (xw hb h)
theorem Aj{m j:Nat}(h:uZ m j):ep (m:Int)=ep (j:Int)/\(ep (m:Int)=true->m=j):=by
 rcases h with rfl|⟨h1,rfl⟩
 ·exact⟨rfl,fun _=>rfl⟩
 ·have e1:ep (m:Int)=false:=by simp only[ep,bT];omega
  have e2:ep ((1114112:Nat):Int)=false:=by decide
  exact⟨by rw[e1,e2],fun h=>by rw[e1]at h;cases h⟩
theorem wh(base:Nat)(hb:1<=base)(s:List UInt8):lg base s=match mg base 0 s with|none=>none|some n=>if ep (n:Int)=true then some (bD (n:Int))else none:=by
 rw[lg]
 split
 ·next h=>subst h;rfl
 ·rcases yJ hb (s:=s) (n:=0) (k:=0) (.inl rfl)with⟨h1,h2⟩|⟨m,j,h1,h2,h3⟩
  ·rw[h1,h2]
  ·rw[h1,h2]
   dsimp only;obtain⟨e,e'⟩:=Aj h3;cases hx:ep (m:Int)with
   |false=>rw[<-e,hx,am (by simp),am (by simp)]
   |true=>rw[<-e,hx,av rfl,av rfl,e' hx]
theorem G1{base:Nat}{c:UInt8}{d:Nat}(h:xV base c=some d):48<=c.toNat/\c.toNat≠60:=by
 unfold xV at h;cases hd:tJ c with
 |none=>rw[hd]at h;cases h
 |some e =>
  unfold tJ at hd
  split at hd
  ·omega
  ·split at hd
   ·omega
   ·split at hd
    ·omega
    ·cases hd
theorem rj{base:Nat}:∀{s:List UInt8} {n m:Nat},pG base n s=some m->∀c∈s,35<=c.toNat/\c.toNat≠60
 | [],_,_,_,c,hc=>by cases hc
 |x::s,n,m,h,c,hc=>by
  rw[ng]at h;cases hd:xV base x with
  |none=>rw[hd]at h;cases h
  |some d =>
   rw[hd]at h;rcases aU.1 hc with rfl|hc
   ·have:=G1 hd;omega
   ·exact rj h c hc
theorem rY{base:Nat}{s y:List UInt8}(h:lg base s=some y):∀c∈s,35<=c.toNat/\c.toNat≠60:=by
 unfold lg at h
 split at h
 ·cases h
 ·cases hn:pG base 0 s with
  |none=>rw[hn]at h;cases h
  |some n=>exact rj hn
theorem nc{s y:List UInt8}(h:fw s=some y):∀c∈s,35<=c.toNat/\c.toNat≠60:=by
 unfold fw at h
 split at h
 ·next e=>subst e;decide
 split at h
 ·next e=>subst e;decide
 split at h
 ·next e=>subst e;decide
 split at h
 ·next e=>subst e;decide
 split at h
 ·next e=>subst e;decide
 split at h
 ·next e =>
  cases s with
  |nil=>cases e
  |cons x s =>
   injection e with e
   subst e;intro c hc;rcases aU.1 hc with rfl|hc
   ·decide
   ·rw[List.tail_cons]at h
    split at h
    ·next e2 =>
     cases s with
     |nil=>cases e2
     |cons z s =>
      injection e2 with e2
      subst e2;rcases aU.1 hc with rfl|hc
      ·decide
      ·exact rY h c hc
    ·exact rY h c hc
 ·cases h
theorem sE{s y:List UInt8}(h:fw s=some y):1<=y.length/\y.length<=4:=by
 have hch:∀{base:Nat} {t:List UInt8},lg base t=some y->1<=y.length/\y.length<=4:=fun {base t} h=>by
  unfold lg at h
  split at h
  ·cases h
  ·cases hn:pG base 0 t with
   |none=>rw[hn]at h;cases h
   |some n =>
    rw[hn]at h;dsimp only at h
    split at h
    ·injection h with h
     subst h;rw[kp];exact tD _
    ·cases h
 unfold fw at h
 split at h
 ·injection h with h;subst h;decide
 split at h
 ·injection h with h;subst h;decide
 split at h
 ·injection h with h;subst h;decide
 split at h
 ·injection h with h;subst h;decide
 split at h
 ·injection h with h;subst h;decide
 split at h
 ·split at h
  ·exact hch h
  ·exact hch h
 ·cases h
theorem mq{b:Bool}:∀{s:List UInt8} {st:Option (List UInt8)},(60∈s∨∃p,st=some p/\60∈p)->gr b st s=none
 | [],none,h=>by
  rcases h with h|⟨p,h,_⟩
  ·cases h
  ·cases h
 | [],some p,_=>rfl
 |c::r,none,h=>by
  have h':60∈c::r:=by
   rcases h with h|⟨p,h,_⟩
   ·exact h
   ·cases h
  rw[gr];by_cases hc:c=60
  ·rw[av hc]
  ·have hr:60∈r:=by
    rcases aU.1 h' with h|h
    ·exact absurd h.symm hc
    ·exact h
   rw[am hc]
   split
   ·exact mq (.inl hr)
   ·rw[mq (.inl hr)];rfl
 |c::r,some p,h=>by
  rw[gr];by_cases hc:c=59
  ·rw[av hc]
   cases hp:fw p with
   |none=>rfl
   |some y =>
    have hr:60∈r:=by
     rcases h with h|⟨q,hq,hm⟩
     ·rcases aU.1 h with h|h
      ·rw[hc]at h;cases h
      ·exact h
     ·injection hq with hq
      subst hq;exact absurd rfl (nc hp 60 hm).2
    dsimp only;rw[mq (.inl hr)];rfl
  ·rw[am hc]
   refine mq ?_;rcases h with h|⟨q,hq,hm⟩
   ·rcases aU.1 h with h|h
    ·exact .inr ⟨_,rfl,by simp[h]⟩
    ·exact .inl h
   ·injection hq with hq
    subst hq;exact .inr ⟨_,rfl,by simp[hm]⟩
theorem xP{b:Bool}{s:List UInt8}(h:60∈s):dI b s=none:=mq (.inl h)
theorem kX:∀{s:List UInt8},60∉s->38∉s->∀t,dI false (s++t)=(dI false t).map (s++·)
 | [],_,_,t=>by rw[aE];cases dI false t<;>simp
 |c::s,h1,h2,t=>by
  simp only[aU,not_or]at h1 h2;rw[aA,rL (Ne.symm h1.1) (Ne.symm h2.1),kX h1.2 h2.2 t];cases dI false t<;>simp[gz]
theorem yY{s:List UInt8}(h1:60∉s)(h2:38∉s):dI false s=some s:=by
 have:=kX h1 h2 [];rw[bo]at this;rw[this,yX];simp
def bl(c:UInt8):UInt8:=if c=9∨c=10∨c=13 then 32 else c
theorem DG(c:UInt8):gz true c=bl c:=by unfold gz bl;simp
theorem DH{c d:UInt8}(hd:d≠32)(hd1:d≠9)(hd2:d≠10)(hd3:d≠13):bl c=d↔c=d:=by
 unfold bl
 split
 ·next h =>
  constructor
  ·intro e;exact absurd e.symm hd
  ·rintro rfl;rcases h with h|h|h
   ·exact absurd h hd1
   ·exact absurd h hd2
   ·exact absurd h hd3
 ·exact Iff.rfl
theorem rs{p:List UInt8}(h:∀c∈p,35<=c.toNat):p.map bl=p:=by
 rw[List.map_congr_left (g:=id),List.map_id];intro c hc;have:=h c hc;unfold bl;rw[am]
 ·rfl
 ·rintro(rfl|rfl|rfl)<;>simp at this
theorem Gv(p:List UInt8):fw (p.map bl)=fw p:=by
 by_cases h:∀c∈p,35<=c.toNat
 ·rw[rs h]
 ·have h1:fw p=none:=by
   cases hp:fw p with
   |none=>rfl
   |some y=>exact absurd (fun c hc=>(nc hp c hc).1) h
  have h2:fw (p.map bl)=none:=by
   cases hp:fw (p.map bl)with
   |none=>rfl
   |some y =>
    refine absurd (fun c hc => ?_) h;have h3:=(nc hp (bl c) (List.mem_map_of_mem hc)).1;unfold bl at h3
    split at h3
    ·simp at h3
    ·exact h3
  rw[h1,h2]
theorem ms:∀(s:List UInt8) (st:Option (List UInt8)),gr false (st.map (·.map bl)) (s.map bl)=gr true st s
 | [],none=>rfl
 | [],some p=>rfl
 |c::r,none=>by
  rw[List.map_cons,Option.map_none,gr,gr];have h60:bl c=60↔c=60:=DH (by decide) (by decide) (by decide) (by decide)
  have h38:bl c=38↔c=38:=DH (by decide) (by decide) (by decide) (by decide)
  by_cases h1:c=60
  ·rw[av h1,av (h60.2 h1)]
  ·rw[am h1,am (fun h=>h1 (h60.1 h))]
   by_cases h2:c=38
   ·rw[av h2,av (h38.2 h2)]
    exact ms r (some [])
   ·rw[am h2,am (fun h=>h2 (h38.1 h)),DG]
    have:=ms r none;rw[Option.map_none]at this;rw[this];have e:gz false (bl c)=bl c:=by simp[gz]
    rw[e]
 |c::r,some p=>by
  rw[List.map_cons,Option.map_some,gr,gr];have h59:bl c=59↔c=59:=DH (by decide) (by decide) (by decide) (by decide)
  by_cases h1:c=59
  ·rw[av h1,av (h59.2 h1),Gv]
   have:=ms r none;rw[Option.map_none]at this;rw[this]
  ·rw[am h1,am (fun h=>h1 (h59.1 h))]
   have:=ms r (some (p++[c]));simpa using this
theorem GZ(s:List UInt8):dI false (s.map bl)=dI true s:=ms s none
theorem vO{r:Int}(hc:eA r=true)(h:128<=r):∀c∈bD r,128<=c.toNat:=by
 rw[eG]at hc;intro c hm;unfold bD at hm;obtain⟨x,hx,rfl⟩:=List.mem_map.1 hm
 have h2:128<=x/\x<256:=by
  unfold dJ at hx
  split at hx
  ·omega
  ·split at hx
   ·simp at hx;omega
   ·split at hx
    ·simp at hx;omega
    ·simp at hx;omega
 rw[cq (by omega) h2.2];omega
theorem oz{r:Int}(h:r<128):bD r=[r.toNat.toUInt8]:=by
 unfold bD dJ;rw[av (by omega)];rfl
theorem JQ{c:UInt8}(h:c.toNat<128):bD (c.toNat:Int)=[c]:=by
 rw[oz (by omega)];simp
theorem nP:∀{s t:List UInt8},(∀c∈t,128<=c.toNat)->s.map bl=t->s=t
 | [],t,_,h=>by rw[<-h];rfl
 |c::s,[],_,h=>by cases h
 |c::s,d::t,ht,h=>by
  rw[List.map_cons]at h
  injection h with h1 h2
  have hd:=ht d (by simp)
  have e:c=d:=by
   unfold bl at h1
   split at h1
   ·subst h1;simp at hd
   ·exact h1
  rw[e,nP (fun x hx=>ht x (by simp[hx])) h2]
theorem ym:mZ []:=⟨[],rfl,rfl,rfl⟩
theorem gH{r:Int}(h:ep r=true){s:List UInt8}(hs:mZ s):mZ (bD r++s):=by
 obtain⟨l,h1,h2,rfl⟩:=hs;exact⟨r::l,by rw[List.all_cons,oW h,h1];rfl,by rw[List.all_cons,h,h2];rfl,rfl⟩
theorem qP:∀(l:List Int),l.all eA=true->l.all ep=true->mZ ((bg l).map bl)
 | [],_,_=>ym
 |r::l,h1,h2=>by
  rw[List.all_cons,aO]at h1 h2;rw[cZ,List.map_append];have ih:=qP l h1.2 h2.2;by_cases hr:128<=r
  ·rw[rs (fun c hc=>by have:=vO h1.1 hr c hc;omega)]
   exact gH h2.1 ih
  ·have hb:=eG.1 h1.1
   have hx:r.toNat.toUInt8.toNat=r.toNat:=cq hb.1 (by omega)
   rw[oz (by omega),List.map_cons,List.map_nil]
   unfold bl
   split
   ·have:mZ (bD 32++(bg l).map bl):=gH (by decide) ih
    exact this
   ·have:mZ (bD r++(bg l).map bl):=gH h2.1 ih
    rwa [oz (by omega)]at this
theorem nI:∀(l:List Int) (s:List UInt8),l.all eA=true->l.all ep=true->s.map bl=bg l->mZ s
 | [],s,_,_,h=>by
  have:s=[]:=by simpa [bg]using h
  rw[this];exact ym
 |r::l,s,h1,h2,h=>by
  rw[List.all_cons,aO]at h1 h2;rw[cZ]at h;obtain⟨s1,s2,rfl,e1,e2⟩:=List.map_eq_append_iff.1 h;have ih:=nI l s2 h1.2 h2.2 e2;by_cases hr:128<=r
  ·rw[nP (vO h1.1 hr) e1]
   exact gH h2.1 ih
  ·have hb:=eG.1 h1.1
   rw[oz (by omega)]at e1
   cases s1 with
   |nil=>cases e1
   |cons c t =>
    rw[List.map_cons]at e1
    injection e1 with e1 e3
    have ht:t=[]:=by simpa using e3
    subst ht;unfold bl at e1
    split at e1
    ·next hc =>
     rcases hc with rfl|rfl|rfl
     ·exact gH (r:=9) (by decide) ih
     ·exact gH (r:=10) (by decide) ih
     ·exact gH (r:=13) (by decide) ih
    ·subst e1
     have:=gH h2.1 ih
     rwa [oz (by omega)]at this
theorem B6(s:List UInt8):mZ (s.map bl)↔mZ s:=by
 constructor
 ·rintro⟨l,h1,h2,e⟩
  exact nI l s h1 h2 e
 ·rintro⟨l,h1,h2,rfl⟩
  exact qP l h1 h2
open Classical in
noncomputable def lQ(s:List UInt8):Option (List UInt8):=if mZ s then dI false s else none
theorem Ej(s:List UInt8):fA s=lQ (s.map bl):=by
 unfold fA lQ;by_cases h:mZ s
 ·rw[av h,av ((B6 s).2 h),GZ]
 ·rw[am h,am (fun h'=>h ((B6 s).1 h'))]
theorem vZ{s:List UInt8}(h:¬jR s):cT s=lQ s:=by
 unfold cT lQ;by_cases ht:mZ s
 ·rw[av ⟨ht,h⟩,av ht]
 ·rw[am (fun h'=>ht h'.1),am ht]
theorem rV{s:List UInt8}(h:jR s):cT s=none:=by
 unfold cT;rw[am (fun h'=>h'.2 h)]
theorem Gr{s:List UInt8}(h:¬mZ s):lQ s=none:=by unfold lQ;rw[am h]
theorem EM{s:List UInt8}(h:mZ s):lQ s=dI false s:=by unfold lQ;rw[av h]
section
open Go.RowKit
theorem vT(c:UInt8):(48<=c.toNat/\c.toNat<=57/\dv c=c.toNat-48)∨(97<=c.toNat/\c.toNat<=102/\dv c=c.toNat-87)∨(65<=c.toNat/\c.toNat<=70/\dv c=c.toNat-55) ∨
 ((c.toNat<48∨(57<c.toNat/\c.toNat<65)∨(70<c.toNat/\c.toNat<97)∨102<c.toNat)/\dv c=1114112):=by
 unfold dv tJ;by_cases h1:48<=c.toNat/\c.toNat<=57
 ·rw[av h1];exact .inl ⟨h1.1,h1.2,rfl⟩
 ·rw[am h1]
  by_cases h2:97<=c.toNat/\c.toNat<=102
  ·rw[av h2];exact .inr (.inl ⟨h2.1,h2.2,rfl⟩)
  ·rw[am h2]
   by_cases h3:65<=c.toNat/\c.toNat<=70
   ·rw[av h3];exact .inr (.inr (.inl ⟨h3.1,h3.2,rfl⟩))
   ·rw[am h3];exact .inr (.inr (.inr ⟨by omega,rfl⟩))
theorem rR(c:UInt8)(w:World):Calls Tryz.prog 214 #[.int .u8 (c.toNat:Int)] w fun e w'=>e=.returned (.int .i32 (dv c:Nat))/\w'=w:=by
 have hb:=c.toNat_lt;rcases vT c with⟨h1,h2,e⟩|⟨h1,h2,e⟩|⟨h1,h2,e⟩|⟨h,e⟩
 ·rw[e]
  generalize c.toNat=n at *;have z1:(48:Int)<=(n:Int):=by omega
  have z2:(n:Int)<=57:=by omega
  have e':(((n-48:Nat)):Int)=(n:Int)-48:=by omega
  rw[e'];clear e e';go_enter Tryz.func214,Tryz.ntmps214;go_wp2;go_ret;exact⟨rfl,rfl⟩
 ·rw[e]
  generalize c.toNat=n at *;have z1:(97:Int)<=(n:Int):=by omega
  have z2:(n:Int)<=102:=by omega
  have z3:(48:Int)<=(n:Int):=by omega
  have z4:=ap (show ¬(n:Int)<=57 by omega)
  have z5:¬(n:Int)<=57:=by omega
  have e':(((n-87:Nat)):Int)=(n:Int)-97+10:=by omega
  rw[e'];clear e e';go_enter Tryz.func214,Tryz.ntmps214;go_wp2;go_ret;refine⟨?_,rfl⟩
  congr 2<;>omega
 ·rw[e]
  generalize c.toNat=n at *;have z1:(65:Int)<=(n:Int):=by omega
  have z2:(n:Int)<=70:=by omega
  have z3:(48:Int)<=(n:Int):=by omega
  have z4:=ap (show ¬(n:Int)<=57 by omega)
  have z5:¬(n:Int)<=57:=by omega
  have z6:=ap (show ¬(97:Int)<=(n:Int)by omega)
  have z7:¬(97:Int)<=(n:Int):=by omega
  have e':(((n-55:Nat)):Int)=(n:Int)-65+10:=by omega
  rw[e'];clear e e';go_enter Tryz.func214,Tryz.ntmps214;go_wp2;go_ret;refine⟨?_,rfl⟩
  congr 2<;>omega
 ·rw[e]
  clear e;generalize c.toNat=n at *;go_enter Tryz.func214,Tryz.ntmps214;go_wp2
  all_goals first
   |(exfalso;omega)
   |(go_ret;exact⟨rfl,rfl⟩)
def dz(base:Nat)(c:UInt8):Int:=if dv c<base then(dv c:Nat)else -1
theorem lR(base:Nat)(hbase:base=10∨base=16)(c:UInt8)(w:World):Calls Tryz.prog 203 #[.int .u8 (c.toNat:Int),.int .i32 (base:Int)] w fun e w'=>e=.returned (.int .i32 (dz base c))/\w'=w:=by
 have hb:=c.toNat_lt;unfold dz;rcases vT c with⟨h1,h2,e⟩|⟨h1,h2,e⟩|⟨h1,h2,e⟩|⟨h,e⟩
 all_goals
  rw[e];clear e;generalize c.toNat=n at *;go_enter Tryz.func203,Tryz.ntmps203;go_wp2
  all_goals first
   |(exfalso;omega)
   |(go_ret
     refine⟨?_,rfl⟩
     first
      |rfl
      |(show Ending.returned (.int .i32 _)=_
        congr 2
        omega))
end
section
open Go.RowKit
theorem kr:(Tryz.prog.info? 5).map (fun i=>(i.zero,i.size,i.bytes))=some (some (.int .u8 0),1,1):=by kernel_rfl
theorem tb(B:Nat)(v:Value)(n:Nat)(xs:List Value)(r:Int)(h0:128<=r)(h1:r<=2047)(w:World)(hown:w.ownsRow B 5 1 v n xs)(hlen:n+4<=140737488355328)(hBw:B<=w.heap.size) :
 Calls Tryz.prog 218 #[v,.int .i32 r] w fun e w' => ∃v',e=.returned v'/\w'.ownsRow B 5 1 v' (n+2) (xs++[.int .u8 (192+r/64),.int .u8 (128+r%64)])/\∃o,(w.alloc o).grownBy w' v.ownBlock:=by
 obtain⟨i0,hi,hz0,hz1,hz2⟩:=info_parts kr;go_enter Tryz.func218,Tryz.ntmps218
 go_wp2_with (at_builtin;refine wpList_append_own _ rfl _ _ 22 rfl B 5 i0 (.int .u8 0) 1 1 Tryz.underlying22 hi hz0 hz1 hz2 rfl (by decide) _ _ _ rfl (hown.alloc _) ⟨w.heap.size,0,none⟩ 2 2 [.int .u8 (192+r/64),.int .u8 (128+r%64)] rfl rfl ?c1 ?c2 ?c3 ?c4 ?c5 ?_)
 case c1 =>
  intro j u hj
  match j,hj with
  |0,hj=>simp at hj;subst hj;simp[Addr.add]
  |1,hj=>simp at hj;subst hj;simp[Addr.add]
  |(j+2),hj=>simp at hj
 case c2=>intro u hu;simp at hu;rcases hu with rfl|rfl<;>rfl
 case c3=>unfold maxLen;omega
 case c4=>omega
 case c5=>simp;omega
 intro v' w2 hown' hgrow _;go_wp2;go_ret;exact⟨_,rfl,hown',_,hgrow⟩
theorem lV(B:Nat)(v:Value)(n:Nat)(xs:List Value)(r:Int)(h0:2048<=r)(h1:r<55296)(w:World)(hown:w.ownsRow B 5 1 v n xs)(hlen:n+4<=140737488355328)(hBw:B<=w.heap.size) :
 Calls Tryz.prog 218 #[v,.int .i32 r] w fun e w' => ∃v',e=.returned v'/\w'.ownsRow B 5 1 v' (n+3) (xs++[.int .u8 (224+r/4096),.int .u8 (128+r/64%64),.int .u8 (128+r%64)])/\∃o,(w.alloc o).grownBy w' v.ownBlock:=by
 obtain⟨i0,hi,hz0,hz1,hz2⟩:=info_parts kr;go_enter Tryz.func218,Tryz.ntmps218
 go_wp2_with (at_builtin;refine wpList_append_own _ rfl _ _ 22 rfl B 5 i0 (.int .u8 0) 1 1 Tryz.underlying22 hi hz0 hz1 hz2 rfl (by decide) _ _ _ rfl (hown.alloc _) ⟨w.heap.size,0,none⟩ 3 3 [.int .u8 (224+r/4096),.int .u8 (128+r/64%64),.int .u8 (128+r%64)] rfl rfl ?c1 ?c2 ?c3 ?c4 ?c5 ?_)
 case c1 =>
  intro j u hj
  match j,hj with
  |0,hj=>simp at hj;subst hj;simp[Addr.add]
  |1,hj=>simp at hj;subst hj;simp[Addr.add]
  |2,hj=>simp at hj;subst hj;simp[Addr.add]
  |(j+3),hj=>simp at hj
 case c2=>intro u hu;simp at hu;rcases hu with rfl|rfl|rfl<;>rfl
 case c3=>unfold maxLen;omega
 case c4=>omega
 case c5=>simp;omega
 intro v' w2 hown' hgrow _;go_wp2;go_ret;exact⟨_,rfl,hown',_,hgrow⟩
theorem lW(B:Nat)(v:Value)(n:Nat)(xs:List Value)(r:Int)(h0:57343<r)(h1:r<=65535)(w:World)(hown:w.ownsRow B 5 1 v n xs)(hlen:n+4<=140737488355328)(hBw:B<=w.heap.size) :
 Calls Tryz.prog 218 #[v,.int .i32 r] w fun e w' => ∃v',e=.returned v'/\w'.ownsRow B 5 1 v' (n+3) (xs++[.int .u8 (224+r/4096),.int .u8 (128+r/64%64),.int .u8 (128+r%64)])/\∃o,(w.alloc o).grownBy w' v.ownBlock:=by
 obtain⟨i0,hi,hz0,hz1,hz2⟩:=info_parts kr;go_enter Tryz.func218,Tryz.ntmps218
 go_wp2_with (at_builtin;refine wpList_append_own _ rfl _ _ 22 rfl B 5 i0 (.int .u8 0) 1 1 Tryz.underlying22 hi hz0 hz1 hz2 rfl (by decide) _ _ _ rfl (hown.alloc _) ⟨w.heap.size,0,none⟩ 3 3 [.int .u8 (224+r/4096),.int .u8 (128+r/64%64),.int .u8 (128+r%64)] rfl rfl ?c1 ?c2 ?c3 ?c4 ?c5 ?_)
 case c1 =>
  intro j u hj
  match j,hj with
  |0,hj=>simp at hj;subst hj;simp[Addr.add]
  |1,hj=>simp at hj;subst hj;simp[Addr.add]
  |2,hj=>simp at hj;subst hj;simp[Addr.add]
  |(j+3),hj=>simp at hj
 case c2=>intro u hu;simp at hu;rcases hu with rfl|rfl|rfl<;>rfl
 case c3=>unfold maxLen;omega
 case c4=>omega
 case c5=>simp;omega
 intro v' w2 hown' hgrow _;go_wp2;go_ret;exact⟨_,rfl,hown',_,hgrow⟩
theorem qB(B:Nat)(v:Value)(n:Nat)(xs:List Value)(r:Int)(h0:65536<=r)(h1:r<=1114111)(w:World)(hown:w.ownsRow B 5 1 v n xs)(hlen:n+4<=140737488355328)(hBw:B<=w.heap.size) :
 Calls Tryz.prog 218 #[v,.int .i32 r] w fun e w' => ∃v',e=.returned v'/\w'.ownsRow B 5 1 v' (n+4) (xs++[.int .u8 (240+r/262144),.int .u8 (128+r/4096%64),.int .u8 (128+r/64%64),.int .u8 (128+r%64)])/\∃o,(w.alloc o).grownBy w' v.ownBlock:=by
 obtain⟨i0,hi,hz0,hz1,hz2⟩:=info_parts kr;go_enter Tryz.func218,Tryz.ntmps218
 go_wp2_with (at_builtin;refine wpList_append_own _ rfl _ _ 22 rfl B 5 i0 (.int .u8 0) 1 1 Tryz.underlying22 hi hz0 hz1 hz2 rfl (by decide) _ _ _ rfl (hown.alloc _) ⟨w.heap.size,0,none⟩ 4 4 [.int .u8 (240+r/262144),.int .u8 (128+r/4096%64),.int .u8 (128+r/64%64),.int .u8 (128+r%64)] rfl rfl ?c1 ?c2 ?c3 ?c4 ?c5 ?_)
 case c1 =>
  intro j u hj
  match j,hj with
  |0,hj=>simp at hj;subst hj;simp[Addr.add]
  |1,hj=>simp at hj;subst hj;simp[Addr.add]
  |2,hj=>simp at hj;subst hj;simp[Addr.add]
  |3,hj=>simp at hj;subst hj;simp[Addr.add]
  |(j+4),hj=>simp at hj
 case c2=>intro u hu;simp at hu;rcases hu with rfl|rfl|rfl|rfl<;>rfl
 case c3=>unfold maxLen;omega
 case c4=>omega
 case c5=>simp;omega
 intro v' w2 hown' hgrow _;go_wp2;go_ret;exact⟨_,rfl,hown',_,hgrow⟩
theorem tZ(B:Nat)(v:Value)(n:Nat)(xs:List Value)(r:Int)(h0:0<=r)(h1:r<=127)(w:World)(hown:w.ownsRow B 5 1 v n xs)(hlen:n+4<=140737488355328)(hBw:B<=w.heap.size) :
 Calls Tryz.prog 215 #[v,.int .i32 r] w fun e w' => ∃v',e=.returned v'/\w'.ownsRow B 5 1 v' (n+1) (xs++[.int .u8 (r)])/\∃o,(w.alloc o).grownBy w' v.ownBlock:=by
 obtain⟨i0,hi,hz0,hz1,hz2⟩:=info_parts kr;go_enter Tryz.func215,Tryz.ntmps215
 go_wp2_with (at_builtin;refine wpList_append_own _ rfl _ _ 22 rfl B 5 i0 (.int .u8 0) 1 1 Tryz.underlying22 hi hz0 hz1 hz2 rfl (by decide) _ _ _ rfl (hown.alloc _) ⟨w.heap.size,0,none⟩ 1 1 [.int .u8 (r)] rfl rfl ?c1 ?c2 ?c3 ?c4 ?c5 ?_)
 case c1 =>
  intro j u hj
  match j,hj with
  |0,hj=>simp at hj;subst hj;simp[Addr.add]
  |(j+1),hj=>simp at hj
 case c2=>intro u hu;simp at hu;subst hu;rfl
 case c3=>unfold maxLen;omega
 case c4=>omega
 case c5=>simp;omega
 intro v' w2 hown' hgrow _;go_wp2;go_ret;exact⟨_,rfl,hown',_,hgrow⟩
theorem tc(B:Nat)(v:Value)(n:Nat)(xs:List Value)(r:Int)(hc:eA r=true)(h1:127<r)(w:World)(hown:w.ownsRow B 5 1 v n xs)(hlen:n+4<=140737488355328)(hBw:B<=w.heap.size) :
 Calls Tryz.prog 218 #[v,.int .i32 r] w fun e w' => ∃v',e=.returned v'/\w'.ownsRow B 5 1 v' (n+(dJ r).length) (xs++wJ (dJ r))/\∃o,(w.alloc o).grownBy w' v.ownBlock:=by
 simp only[eA,bj]at hc;rcases(show r<=2047∨(2048<=r/\r<55296)∨(57343<r/\r<=65535)∨65536<=r from by omega)with h|h|h|h
 ·have e:dJ r=[192+r/64,128+r%64]:=by simp only[dJ];rw[am (by omega),av (by omega)]
  rw[e];exact tb B v n xs r (by omega) h w hown hlen hBw
 ·have e:dJ r=[224+r/4096,128+r/64%64,128+r%64]:=by simp only[dJ];rw[am (by omega),am (by omega),av (by omega)]
  rw[e];exact lV B v n xs r h.1 h.2 w hown hlen hBw
 ·have e:dJ r=[224+r/4096,128+r/64%64,128+r%64]:=by simp only[dJ];rw[am (by omega),am (by omega),av (by omega)]
  rw[e];exact lW B v n xs r h.1 h.2 w hown hlen hBw
 ·have e:dJ r=[240+r/262144,128+r/4096%64,128+r/64%64,128+r%64]:=by simp only[dJ];rw[am (by omega),am (by omega),am (by omega)]
  rw[e];exact qB B v n xs r h (by omega) w hown hlen hBw
theorem tY(B:Nat)(v:Value)(n:Nat)(xs:List Value)(r:Int)(hc:eA r=true)(h1:127<r)(hr:r<=1114111)(w:World)(hown:w.ownsRow B 5 1 v n xs)(hlen:n+4<=140737488355328)(hBw:B<=w.heap.size) :
 Calls Tryz.prog 215 #[v,.int .i32 r] w fun e w' => ∃v',e=.returned v'/\w'.ownsRow B 5 1 v' (n+(dJ r).length) (xs++wJ (dJ r))/\∃o,(w.alloc o).grownBy w' v.ownBlock:=by
 have HC:=tc B v n xs r hc h1 w hown hlen hBw;clear hc hown;go_enter Tryz.func215,Tryz.ntmps215
 go_wp2_with (go_at_call 218;refine HC.mono ?_;rintro e w' ⟨v',rfl,hown',ho⟩)
 go_ret;exact⟨_,rfl,hown',ho⟩
theorem yf(B:Nat)(v:Value)(n:Nat)(xs:List Value)(r:Int)(hc:eA r=true)(w:World)(hown:w.ownsRow B 5 1 v n xs)(hlen:n+4<=140737488355328)(hBw:B<=w.heap.size) :
 Calls Tryz.prog 215 #[v,.int .i32 r] w fun e w' => ∃v',e=.returned v'/\w'.ownsRow B 5 1 v' (n+(dJ r).length) (xs++wJ (dJ r))/\∃o,(w.alloc o).grownBy w' v.ownBlock:=by
 have hc':=hc;simp only[eA,bj]at hc';by_cases h:r<=127
 ·have e:dJ r=[r]:=by simp only[dJ];rw[av h]
  rw[e];exact tZ B v n xs r hc'.1 h w hown hlen hBw
 ·exact tY B v n xs r hc (by omega) (by omega) w hown hlen hBw
end
section
open Go.RowKit
theorem gD(r:Int)(w:World):Calls Tryz.prog 206 #[.int .i32 r] w fun e w'=>e=.returned (.bool (eA r))/\w=w':=by
 go_enter Tryz.func206,Tryz.ntmps206;go_wp2
 all_goals
  go_ret;refine⟨dH ?_,rfl⟩;rw[bm];simp[eA]
  try omega
def BO(B:Nat)(w:World)(zs:List Int)(e:Ending)(w':World):Prop :=
 Below B w w'/\((zs.all eA=true/\∃v,e=.returned (.tuple #[v,.bool true])/\w'.ownsRow B 5 1 v (jI zs).length (wJ (jI zs))) ∨
  (zs.all eA=false/\e=.returned (.tuple #[.slice none 0 0,.bool false])))
def wI(w:World)(zs:List Int)(v i:Value)(wr:World):Prop :=
 ∃k:Nat,k<=zs.length/\i=.int .i64 k/\(zs.take k).all eA=true/\wr.ownsRow w.heap.size 5 1 v (jI (zs.take k)).length (wJ (jI (zs.take k)))/\Below w.heap.size w wr
theorem qT(zs:List Int)(k:Nat)(h:k<zs.length):zs.take (k+1)=zs.take k++[zs[k]]:=aN h
theorem qI{w wr w1:World}{zs:List Int}{v v1:Value}{k:Nat}{o:Obj}(hk:k<zs.length)(ha:(zs.take k).all eA=true)(hc:eA zs[k]=true)
 (hown:wr.ownsRow w.heap.size 5 1 v (jI (zs.take k)).length (wJ (jI (zs.take k)))) (hb:Below w.heap.size w wr)
 (h1:w1.ownsRow w.heap.size 5 1 v1 ((jI (zs.take k)).length+(dJ zs[k]).length) (wJ (jI (zs.take k))++wJ (dJ zs[k]))) (hg:(wr.alloc o).grownBy w1 v.ownBlock) :
 wI w zs v1 (.int .i64 ((k:Int)+1)) w1:=by
 refine⟨k+1,hk,by go_num,by rw[qT zs k hk,List.all_append,ha];simp[hc],?_,?_⟩
 ·rw[qT zs k hk,A6,o9,aj]
  exact h1
 ·refine(hb.alloc hb.size o).grown hg (by have:=hb.size;simp;omega) ?_
  intro g hg';rcases hown.2 with⟨rfl,_⟩|⟨g',cap,cur,rfl,hle,_⟩
  ·simp[Value.ownBlock]at hg'
  ·simp[Value.ownBlock]at hg'
   omega
theorem Br(A:Option Addr)(c:Nat)(zs:List Int)(w:World)(hl:en w w.heap.size A (fo zs))(hn:zs.length<=100000) :
 Calls Tryz.prog 211 #[.slice A zs.length c] w (BO w.heap.size w zs):=by
 go_enter Tryz.func211,Tryz.ntmps211;go_wp2
 go_loopw [4,9] (wI w zs) (fun _ i _=>zs.length-(intOf i).toNat)
 case atStart=>exact⟨0,aM _,rfl,rfl,aQ _ _ _ _,ae _ _⟩
 case round =>
  obtain⟨k,hk,rfl,hall,hown,hb⟩:=hrel;by_cases hlt:k<zs.length
  ·obtain⟨b,o,rfl,hbB,hcell⟩:=hl (by intro h;simp[fo]at h;subst h;simp at hlt)
   have hck:wr.cell? ⟨b,o+k,none⟩=some (.int .i32 zs[k]):=by
    have:=(hb.cell (p:=⟨b,o+k,none⟩) hbB).trans (hcell k (by simpa [fo]using hlt))
    simpa [fo]using this
   clear hcell hl;have hle:=Fq (zs.take k);have hle2:(zs.take k).length<=k:=List.length_take_le _ _;generalize hz:zs[k]=z at hck;have HZ:=aa hz;clear hz;cases hcz:eA z with
   |true =>
    have hallH:=aa hall;clear hall;have HC:=yf w.heap.size
    go_wp2_with (first|(go_at_call 206;refine(gD _ _).mono ?_;rintro e w' ⟨rfl,rfl⟩;rw[hcz])|(go_at_call 215;refine(HC _ _ _ _ hcz _ hown (by omega) hb.size).mono ?_;rintro e w' ⟨v',rfl,hown',ob,hgr⟩))
    go_roundw
    case rel=>exact qI hlt hallH.out (by rw[HZ.out];exact hcz) hown hb (by rw[HZ.out];exact hown') hgr
    case measure=>simp[intOf];omega
   |false =>
    go_wp2_with (first|(go_at_call 206;refine(gD _ _).mono ?_;rintro e w' ⟨rfl,rfl⟩;rw[hcz]))
    go_ret2
    refine⟨hb,.inr ⟨?_,rfl⟩⟩;rw[List.all_eq_false];exact⟨z,by rw[<-HZ.out];exact aJ _,by simp[hcz]⟩
  ·go_wp2
   go_ret2
   have e:zs.take k=zs:=bC (by omega)
   rw[e]at hall hown;exact⟨hb,.inl ⟨hall,_,rfl,hown⟩⟩
end
end Go.Proofs.YteinegfbpfhflaaGreatDoor
