/-
  A number that is kept low; blanks ahead of references; a text without a < that is parted at & and ;. On lists of bytes. Conditions: none.
  What a digit is worth: the program's and the document's. Conditions: the base is 10 or 16.
  utf8.AppendRune onto a row of bytes of the call's own, at a character. Conditions: the number is a character; the row is short.
  utf.Bytes: the bytes of all, if each number is a character; else nothing, and false. Conditions: the list is short.
-/
import Derived.Test.YtlgcigmolfhamaaGreatDoorK23
import Derived.Test.YtlgcigmolfhamaaGreatDoorK10
import Derived.Test.YtlgcigmolfhamaaGreatDoorK00
import Derived.WalkKit
import Derived.Lib.Hide
namespace Go.Proofs.YtlgcigmolfhamaaGreatDoor
set_option linter.unusedVariables false
set_option maxHeartbeats 2000000
set_option maxRecDepth 100000
def dv(c:UInt8):Nat:=(a9w c).getD 1114112
theorem b85{c:UInt8}{d:Nat}(h:a9w c=some d):d<16:=by
 unfold a9w at h
 split at h
 ·injection h;omega
 ·split at h
  ·injection h;omega
  ·split at h
   ·injection h;omega
   ·cases h
theorem b2I{base:Nat}(hb:base<=16)(c:UInt8):dig base c=if dv c<base then some (dv c)else none:=by
 unfold dig dv;cases h:a9w c with
 |none=>simp;omega
 |some d=>simp
theorem b9u(c:UInt8):dv c<=1114112:=by
 unfold dv;cases h:a9w c with
 |none=>simp
 |some d=>have:=b85 h;simp;omega
def a4e(base:Nat):Nat->List UInt8->Option Nat
 |n,[]=>some n
 |n,c::r=>match dig base c with|none=>none|some d=>a4e base (min (n*base+d) 1114112) r
theorem a1Z(base n:Nat)(c:UInt8)(r:List UInt8):a4e base n (c::r)=match dig base c with|none=>none|some d=>a4e base (min (n*base+d) 1114112) r:=rfl
def b0E(n k:Nat):Prop:=n=k∨(1114112<=n/\k=1114112)
theorem b2j{base n k d:Nat}(hb:1<=base)(h:b0E n k):b0E (n*base+d) (min (k*base+d) 1114112):=by
 have h2:n<=n*base:=Nat.le_mul_of_pos_right n hb;have h3:k<=k*base:=Nat.le_mul_of_pos_right k hb;rcases h with rfl|⟨h1,rfl⟩
 ·rcases Nat.le_total (n*base+d) 1114112 with h|h
  ·rw[Nat.min_eq_left h];exact .inl rfl
  ·rw[Nat.min_eq_right h];exact .inr ⟨h,rfl⟩
 ·rw[Nat.min_eq_right (by omega)]
  exact .inr ⟨by omega,rfl⟩
theorem b3k{base:Nat}(hb:1<=base):∀{s:List UInt8} {n k:Nat},b0E n k->(a6A base n s=none/\a4e base k s=none)∨∃m j,a6A base n s=some m/\a4e base k s=some j/\b0E m j
 | [],n,k,h => .inr ⟨n,k,rfl,rfl,h⟩
 |c::r,n,k,h=>by
  rw[a4T,a1Z];cases dig base c with
  |none=>exact .inl ⟨rfl,rfl⟩
  |some d=>exact b3k hb (b2j hb h)
theorem b4B{m j:Nat}(h:b0E m j):P9 (m:Int)=P9 (j:Int)/\(P9 (m:Int)=true->m=j):=by
 rcases h with rfl|⟨h1,rfl⟩
 ·exact⟨rfl,fun _=>rfl⟩
 ·have e1:P9 (m:Int)=false:=by simp only[P9,F4];omega
  have e2:P9 ((1114112:Nat):Int)=false:=by decide
  exact⟨by rw[e1,e2],fun h=>by rw[e1]at h;cases h⟩
theorem b1n(base:Nat)(hb:1<=base)(s:List UInt8):a3w base s=match a4e base 0 s with|none=>none|some n=>if P9 (n:Int)=true then some (C3 (n:Int))else none:=by
 rw[a3w]
 split
 ·next h=>subst h;rfl
 ·rcases b3k hb (s:=s) (n:=0) (k:=0) (.inl rfl)with⟨h1,h2⟩|⟨m,j,h1,h2,h3⟩
  ·rw[h1,h2]
  ·rw[h1,h2]
   dsimp only;obtain⟨e,e'⟩:=b4B h3;cases hx:P9 (m:Int)with
   |false=>rw[<-e,hx,f6 (by simp),f6 (by simp)]
   |true=>rw[<-e,hx,g8 rfl,g8 rfl,e' hx]
theorem c0z{base:Nat}{c:UInt8}{d:Nat}(h:dig base c=some d):48<=c.toNat/\c.toNat≠60:=by
 unfold dig at h;cases hd:a9w c with
 |none=>rw[hd]at h;cases h
 |some e =>
  unfold a9w at hd
  split at hd
  ·omega
  ·split at hd
   ·omega
   ·split at hd
    ·omega
    ·cases hd
theorem a7S{base:Nat}:∀{s:List UInt8} {n m:Nat},a6A base n s=some m->∀c∈s,35<=c.toNat/\c.toNat≠60
 | [],_,_,_,c,hc=>by cases hc
 |x::s,n,m,h,c,hc=>by
  rw[a4T]at h;cases hd:dig base x with
  |none=>rw[hd]at h;cases h
  |some d =>
   rw[hd]at h;rcases q8.1 hc with rfl|hc
   ·have:=c0z hd;omega
   ·exact a7S h c hc
theorem a8n{base:Nat}{s y:List UInt8}(h:a3w base s=some y):∀c∈s,35<=c.toNat/\c.toNat≠60:=by
 unfold a3w at h
 split at h
 ·cases h
 ·cases hn:a6A base 0 s with
  |none=>rw[hn]at h;cases h
  |some n=>exact a7S hn
theorem a4Q{s y:List UInt8}(h:X1 s=some y):∀c∈s,35<=c.toNat/\c.toNat≠60:=by
 unfold X1 at h
 split at h
 ·next e=>subst e;decide
 split at h
 ·next e=>subst e;decide
 split at h
 ·next e=>subst e;decide
 split at h
 ·next e=>subst e;decide
 split at h
 ·next e=>subst e;decide
 split at h
 ·next e =>
  cases s with
  |nil=>cases e
  |cons x s =>
   injection e with e
   subst e;intro c hc;rcases q8.1 hc with rfl|hc
   ·decide
   ·rw[List.tail_cons]at h
    split at h
    ·next e2 =>
     cases s with
     |nil=>cases e2
     |cons z s =>
      injection e2 with e2
      subst e2;rcases q8.1 hc with rfl|hc
      ·decide
      ·exact a8n h c hc
    ·exact a8n h c hc
 ·cases h
theorem a8K{s y:List UInt8}(h:X1 s=some y):1<=y.length/\y.length<=4:=by
 have D0:∀{base:Nat} {t:List UInt8},a3w base t=some y->1<=y.length/\y.length<=4:=fun {base t} h=>by
  unfold a3w at h
  split at h
  ·cases h
  ·cases hn:a6A base 0 t with
   |none=>rw[hn]at h;cases h
   |some n =>
    rw[hn]at h;dsimp only at h
    split at h
    ·injection h with h
     subst h;rw[a2O];exact a9p _
    ·cases h
 unfold X1 at h
 split at h
 ·injection h with h;subst h;decide
 split at h
 ·injection h with h;subst h;decide
 split at h
 ·injection h with h;subst h;decide
 split at h
 ·injection h with h;subst h;decide
 split at h
 ·injection h with h;subst h;decide
 split at h
 ·split at h
  ·exact D0 h
  ·exact D0 h
 ·cases h
theorem a4m{b:Bool}:∀{s:List UInt8} {st:Option (List UInt8)},(60∈s∨∃p,st=some p/\60∈p)->a0w b st s=none
 | [],none,h=>by
  rcases h with h|⟨p,h,_⟩
  ·cases h
  ·cases h
 | [],some p,_=>rfl
 |c::r,none,h=>by
  have h':60∈c::r:=by
   rcases h with h|⟨p,h,_⟩
   ·exact h
   ·cases h
  rw[a0w];by_cases hc:c=60
  ·rw[g8 hc]
  ·have hr:60∈r:=by
    rcases q8.1 h' with h|h
    ·exact absurd h.symm hc
    ·exact h
   rw[f6 hc]
   split
   ·exact a4m (.inl hr)
   ·rw[a4m (.inl hr)];rfl
 |c::r,some p,h=>by
  rw[a0w];by_cases hc:c=59
  ·rw[g8 hc]
   cases hp:X1 p with
   |none=>rfl
   |some y =>
    have hr:60∈r:=by
     rcases h with h|⟨q,hq,hm⟩
     ·rcases q8.1 h with h|h
      ·rw[hc]at h;cases h
      ·exact h
     ·injection hq with hq
      subst hq;exact absurd rfl (a4Q hp 60 hm).2
    dsimp only;rw[a4m (.inl hr)];rfl
  ·rw[f6 hc]
   refine a4m ?_;rcases h with h|⟨q,hq,hm⟩
   ·rcases q8.1 h with h|h
    ·exact .inr ⟨_,rfl,by simp[h]⟩
    ·exact .inl h
   ·injection hq with hq
    subst hq;exact .inr ⟨_,rfl,by simp[hm]⟩
theorem b2D{b:Bool}{s:List UInt8}(h:60∈s):M9 b s=none:=a4m (.inl h)
theorem a3n:∀{s:List UInt8},60∉s->38∉s->∀t,M9 false (s++t)=(M9 false t).map (s++·)
 | [],_,_,t=>by rw[l7];cases M9 false t<;>simp
 |c::s,h1,h2,t=>by
  simp only[q8,not_or]at h1 h2;rw[i9,a8b (Ne.symm h1.1) (Ne.symm h2.1),a3n h1.2 h2.2 t];cases M9 false t<;>simp[a0C]
theorem b3y{s:List UInt8}(h1:60∉s)(h2:38∉s):M9 false s=some s:=by
 have:=a3n h1 h2 [];rw[A7]at this;rw[this,b3x];simp
def bl(c:UInt8):UInt8:=if c=9∨c=10∨c=13 then 32 else c
theorem b7p(c:UInt8):a0C true c=bl c:=by unfold a0C bl;simp
theorem b7q{c d:UInt8}(hd:d≠32)(D0:d≠9)(D1:d≠10)(D2:d≠13):bl c=d↔c=d:=by
 unfold bl
 split
 ·next h =>
  constructor
  ·intro e;exact absurd e.symm hd
  ·rintro rfl;rcases h with h|h|h
   ·exact absurd h D0
   ·exact absurd h D1
   ·exact absurd h D2
 ·exact Iff.rfl
theorem a7X{p:List UInt8}(h:∀c∈p,35<=c.toNat):p.map bl=p:=by
 rw[List.map_congr_left (g:=id),List.map_id];intro c hc;have:=h c hc;unfold bl;rw[f6]
 ·rfl
 ·rintro(rfl|rfl|rfl)<;>simp at this
theorem b9X(p:List UInt8):X1 (p.map bl)=X1 p:=by
 by_cases h:∀c∈p,35<=c.toNat
 ·rw[a7X h]
 ·have h1:X1 p=none:=by
   cases hp:X1 p with
   |none=>rfl
   |some y=>exact absurd (fun c hc=>(a4Q hp c hc).1) h
  have h2:X1 (p.map bl)=none:=by
   cases hp:X1 (p.map bl)with
   |none=>rfl
   |some y =>
    refine absurd (fun c hc => ?_) h;have h3:=(a4Q hp (bl c) (List.mem_map_of_mem hc)).1;unfold bl at h3
    split at h3
    ·simp at h3
    ·exact h3
  rw[h1,h2]
theorem a4o:∀(s:List UInt8) (st:Option (List UInt8)),a0w false (st.map (·.map bl)) (s.map bl)=a0w true st s
 | [],none=>rfl
 | [],some p=>rfl
 |c::r,none=>by
  rw[List.map_cons,Option.map_none,a0w,a0w];have D0:bl c=60↔c=60:=b7q (by decide) (by decide) (by decide) (by decide)
  have D1:bl c=38↔c=38:=b7q (by decide) (by decide) (by decide) (by decide)
  by_cases h1:c=60
  ·rw[g8 h1,g8 (D0.2 h1)]
  ·rw[f6 h1,f6 (fun h=>h1 (D0.1 h))]
   by_cases h2:c=38
   ·rw[g8 h2,g8 (D1.2 h2)]
    exact a4o r (some [])
   ·rw[f6 h2,f6 (fun h=>h2 (D1.1 h)),b7p]
    have:=a4o r none;rw[Option.map_none]at this;rw[this];have e:a0C false (bl c)=bl c:=by simp[a0C]
    rw[e]
 |c::r,some p=>by
  rw[List.map_cons,Option.map_some,a0w,a0w];have D2:bl c=59↔c=59:=b7q (by decide) (by decide) (by decide) (by decide)
  by_cases h1:c=59
  ·rw[g8 h1,g8 (D2.2 h1),b9X]
   have:=a4o r none;rw[Option.map_none]at this;rw[this]
  ·rw[f6 h1,f6 (fun h=>h1 (D2.1 h))]
   have:=a4o r (some (p++[c]));simpa using this
theorem c0v(s:List UInt8):M9 false (s.map bl)=M9 true s:=a4o s none
theorem b1b{r:Int}(hc:R7 r=true)(h:128<=r):∀c∈C3 r,128<=c.toNat:=by
 rw[S6]at hc;intro c hm;unfold C3 at hm;obtain⟨x,hx,rfl⟩:=List.mem_map.1 hm
 have h2:128<=x/\x<256:=by
  unfold N6 at hx
  split at hx
  ·omega
  ·split at hx
   ·simp at hx;omega
   ·split at hx
    ·simp at hx;omega
    ·simp at hx;omega
 rw[G1 (by omega) h2.2];omega
theorem a3o{r:Int}(h:r<128):C3 r=[r.toNat.toUInt8]:=by
 unfold C3 N6;rw[g8 (by omega)];rfl
theorem a62{c:UInt8}(h:c.toNat<128):C3 (c.toNat:Int)=[c]:=by
 rw[a3o (by omega)];simp
theorem a5m:∀{s t:List UInt8},(∀c∈t,128<=c.toNat)->s.map bl=t->s=t
 | [],t,_,h=>by rw[<-h];rfl
 |c::s,[],_,h=>by cases h
 |c::s,d::t,ht,h=>by
  rw[List.map_cons]at h
  injection h with h1 h2
  have hd:=ht d (by simp)
  have e:c=d:=by
   unfold bl at h1
   split at h1
   ·subst h1;simp at hd
   ·exact h1
  rw[e,a5m (fun x hx=>ht x (by simp[hx])) h2]
theorem b2X:txt []:=⟨[],rfl,rfl,rfl⟩
theorem a0J{r:Int}(h:P9 r=true){s:List UInt8}(hs:txt s):txt (C3 r++s):=by
 obtain⟨l,h1,h2,rfl⟩:=hs;exact⟨r::l,by rw[List.all_cons,a3C h,h1];rfl,by rw[List.all_cons,h,h2];rfl,rfl⟩
theorem a7A:∀(l:List Int),l.all R7=true->l.all P9=true->txt ((y9 l).map bl)
 | [],_,_=>b2X
 |r::l,h1,h2=>by
  rw[List.all_cons,i4]at h1 h2;rw[J4,List.map_append];have ih:=a7A l h1.2 h2.2;by_cases hr:128<=r
  ·rw[a7X (fun c hc=>by have:=b1b h1.1 hr c hc;omega)]
   exact a0J h2.1 ih
  ·have hb:=S6.1 h1.1
   have hx:r.toNat.toUInt8.toNat=r.toNat:=G1 hb.1 (by omega)
   rw[a3o (by omega),List.map_cons,List.map_nil]
   unfold bl
   split
   ·have:txt (C3 32++(y9 l).map bl):=a0J (by decide) ih
    exact this
   ·have:txt (C3 r++(y9 l).map bl):=a0J h2.1 ih
    rwa [a3o (by omega)]at this
theorem a5f:∀(l:List Int) (s:List UInt8),l.all R7=true->l.all P9=true->s.map bl=y9 l->txt s
 | [],s,_,_,h=>by
  have:s=[]:=by simpa [y9]using h
  rw[this];exact b2X
 |r::l,s,h1,h2,h=>by
  rw[List.all_cons,i4]at h1 h2;rw[J4]at h;obtain⟨s1,s2,rfl,e1,e2⟩:=List.map_eq_append_iff.1 h;have ih:=a5f l s2 h1.2 h2.2 e2;by_cases hr:128<=r
  ·rw[a5m (b1b h1.1 hr) e1]
   exact a0J h2.1 ih
  ·have hb:=S6.1 h1.1
   rw[a3o (by omega)]at e1
   cases s1 with
   |nil=>cases e1
   |cons c t =>
    rw[List.map_cons]at e1
    injection e1 with e1 e3
    have ht:t=[]:=by simpa using e3
    subst ht;unfold bl at e1
    split at e1
    ·next hc =>
     rcases hc with rfl|rfl|rfl
     ·exact a0J (r:=9) (by decide) ih
     ·exact a0J (r:=10) (by decide) ih
     ·exact a0J (r:=13) (by decide) ih
    ·subst e1
     have:=a0J h2.1 ih
     rwa [a3o (by omega)]at this
theorem b5I(s:List UInt8):txt (s.map bl)↔txt s:=by
 constructor
 ·rintro⟨l,h1,h2,e⟩
  exact a5f l s h1 h2 e
 ·rintro⟨l,h1,h2,rfl⟩
  exact a7A l h1 h2
open Classical in
noncomputable def a30(s:List UInt8):Option (List UInt8):=if txt s then M9 false s else none
theorem b7W(s:List UInt8):X5 s=a30 (s.map bl):=by
 unfold X5 a30;by_cases h:txt s
 ·rw[g8 h,g8 ((b5I s).2 h),c0v]
 ·rw[f6 h,f6 (fun h'=>h ((b5I s).1 h'))]
theorem b1k{s:List UInt8}(h:¬a2w s):J7 s=a30 s:=by
 unfold J7 a30;by_cases ht:txt s
 ·rw[g8 ⟨ht,h⟩,g8 ht]
 ·rw[f6 (fun h'=>ht h'.1),f6 ht]
theorem a8l{s:List UInt8}(h:a2w s):J7 s=none:=by
 unfold J7;rw[f6 (fun h'=>h'.2 h)]
theorem b9U{s:List UInt8}(h:¬txt s):a30 s=none:=by unfold a30;rw[f6 h]
theorem b8n{s:List UInt8}(h:txt s):a30 s=M9 false s:=by unfold a30;rw[g8 h]
section
open Go.RowKit
theorem b1f(c:UInt8):(48<=c.toNat/\c.toNat<=57/\dv c=c.toNat-48)∨(97<=c.toNat/\c.toNat<=102/\dv c=c.toNat-87)∨(65<=c.toNat/\c.toNat<=70/\dv c=c.toNat-55) ∨
 ((c.toNat<48∨(57<c.toNat/\c.toNat<65)∨(70<c.toNat/\c.toNat<97)∨102<c.toNat)/\dv c=1114112):=by
 unfold dv a9w;by_cases h1:48<=c.toNat/\c.toNat<=57
 ·rw[g8 h1];exact .inl ⟨h1.1,h1.2,rfl⟩
 ·rw[f6 h1]
  by_cases h2:97<=c.toNat/\c.toNat<=102
  ·rw[g8 h2];exact .inr (.inl ⟨h2.1,h2.2,rfl⟩)
  ·rw[f6 h2]
   by_cases h3:65<=c.toNat/\c.toNat<=70
   ·rw[g8 h3];exact .inr (.inr (.inl ⟨h3.1,h3.2,rfl⟩))
   ·rw[f6 h3];exact .inr (.inr (.inr ⟨by omega,rfl⟩))
theorem a8h(c:UInt8)(w:World):Calls Tryz.prog 243 #[.int .u8 (c.toNat:Int)] w fun e w'=>e=.returned (.int .i32 (dv c:Nat))/\w'=w:=by
 have hb:=c.toNat_lt;rcases b1f c with⟨h1,h2,e⟩|⟨h1,h2,e⟩|⟨h1,h2,e⟩|⟨h,e⟩
 ·rw[e]
  generalize c.toNat=n at *;have z1:(48:Int)<=(n:Int):=by omega
  have z2:(n:Int)<=57:=by omega
  have e':(((n-48:Nat)):Int)=(n:Int)-48:=by omega
  rw[e'];clear e e';go_enter Tryz.func243,Tryz.ntmps243;go_wp2;go_ret;exact⟨rfl,rfl⟩
 ·rw[e]
  generalize c.toNat=n at *;have z1:(97:Int)<=(n:Int):=by omega
  have z2:(n:Int)<=102:=by omega
  have z3:(48:Int)<=(n:Int):=by omega
  have z4:=f8 (show ¬(n:Int)<=57 by omega)
  have z5:¬(n:Int)<=57:=by omega
  have e':(((n-87:Nat)):Int)=(n:Int)-97+10:=by omega
  rw[e'];clear e e';go_enter Tryz.func243,Tryz.ntmps243;go_wp2;go_ret;refine⟨?_,rfl⟩
  congr 2<;>omega
 ·rw[e]
  generalize c.toNat=n at *;have z1:(65:Int)<=(n:Int):=by omega
  have z2:(n:Int)<=70:=by omega
  have z3:(48:Int)<=(n:Int):=by omega
  have z4:=f8 (show ¬(n:Int)<=57 by omega)
  have z5:¬(n:Int)<=57:=by omega
  have z6:=f8 (show ¬(97:Int)<=(n:Int)by omega)
  have z7:¬(97:Int)<=(n:Int):=by omega
  have e':(((n-55:Nat)):Int)=(n:Int)-65+10:=by omega
  rw[e'];clear e e';go_enter Tryz.func243,Tryz.ntmps243;go_wp2;go_ret;refine⟨?_,rfl⟩
  congr 2<;>omega
 ·rw[e]
  clear e;generalize c.toNat=n at *;go_enter Tryz.func243,Tryz.ntmps243;go_wp2
  all_goals first
   |(exfalso;omega)
   |(go_ret;exact⟨rfl,rfl⟩)
def dz(base:Nat)(c:UInt8):Int:=if dv c<base then(dv c:Nat)else -1
theorem a31(base:Nat)(D0:base=10∨base=16)(c:UInt8)(w:World):Calls Tryz.prog 232 #[.int .u8 (c.toNat:Int),.int .i32 (base:Int)] w fun e w'=>e=.returned (.int .i32 (dz base c))/\w'=w:=by
 have hb:=c.toNat_lt;unfold dz;rcases b1f c with⟨h1,h2,e⟩|⟨h1,h2,e⟩|⟨h1,h2,e⟩|⟨h,e⟩
 all_goals
  rw[e];clear e;generalize c.toNat=n at *;go_enter Tryz.func232,Tryz.ntmps232;go_wp2
  all_goals first
   |(exfalso;omega)
   |(go_ret
     refine⟨?_,rfl⟩
     first
      |rfl
      |(show Ending.returned (.int .i32 _)=_
        congr 2
        omega))
end
section
open Go.RowKit
theorem a2T:(Tryz.prog.info? 5).map (fun i=>(i.zero,i.size,i.bytes))=some (some (.int .u8 0),1,1):=by kernel_rfl
theorem a85(B:Nat)(v:Value)(n:Nat)(xs:List Value)(r:Int)(h0:128<=r)(h1:r<=2047)(w:World)(D2:w.ownsRow B 5 1 v n xs)(D3:n+4<=140737488355328)(E2:B<=w.heap.size) :
 Calls Tryz.prog 247 #[v,.int .i32 r] w fun e w' => ∃v',e=.returned v'/\w'.ownsRow B 5 1 v' (n+2) (xs++[.int .u8 (192+r/64),.int .u8 (128+r%64)])/\∃o,(w.alloc o).grownBy w' v.ownBlock:=by
 obtain⟨i0,hi,D9,E0,E1⟩:=info_parts a2T;go_enter Tryz.func247,Tryz.ntmps247
 go_wp2_with (at_builtin;refine wpList_append_own _ rfl _ _ 22 rfl B 5 i0 (.int .u8 0) 1 1 Tryz.underlying22 hi D9 E0 E1 rfl (by decide) _ _ _ rfl (D2.alloc _) ⟨w.heap.size,0,none⟩ 2 2 [.int .u8 (192+r/64),.int .u8 (128+r%64)] rfl rfl ?c1 ?c2 ?c3 ?c4 ?c5 ?_)
 case c1 =>
  intro j u hj
  match j,hj with
  |0,hj=>simp at hj;subst hj;simp[Addr.add]
  |1,hj=>simp at hj;subst hj;simp[Addr.add]
  |(j+2),hj=>simp at hj
 case c2=>intro u hu;simp at hu;rcases hu with rfl|rfl<;>rfl
 case c3=>unfold maxLen;omega
 case c4=>omega
 case c5=>simp;omega
 intro v' w2 D0 D1 _;go_wp2;go_ret;exact⟨_,rfl,D0,_,D1⟩
theorem a34(B:Nat)(v:Value)(n:Nat)(xs:List Value)(r:Int)(h0:2048<=r)(h1:r<55296)(w:World)(D2:w.ownsRow B 5 1 v n xs)(D3:n+4<=140737488355328)(E2:B<=w.heap.size) :
 Calls Tryz.prog 247 #[v,.int .i32 r] w fun e w' => ∃v',e=.returned v'/\w'.ownsRow B 5 1 v' (n+3) (xs++[.int .u8 (224+r/4096),.int .u8 (128+r/64%64),.int .u8 (128+r%64)])/\∃o,(w.alloc o).grownBy w' v.ownBlock:=by
 obtain⟨i0,hi,D9,E0,E1⟩:=info_parts a2T;go_enter Tryz.func247,Tryz.ntmps247
 go_wp2_with (at_builtin;refine wpList_append_own _ rfl _ _ 22 rfl B 5 i0 (.int .u8 0) 1 1 Tryz.underlying22 hi D9 E0 E1 rfl (by decide) _ _ _ rfl (D2.alloc _) ⟨w.heap.size,0,none⟩ 3 3 [.int .u8 (224+r/4096),.int .u8 (128+r/64%64),.int .u8 (128+r%64)] rfl rfl ?c1 ?c2 ?c3 ?c4 ?c5 ?_)
 case c1 =>
  intro j u hj
  match j,hj with
  |0,hj=>simp at hj;subst hj;simp[Addr.add]
  |1,hj=>simp at hj;subst hj;simp[Addr.add]
  |2,hj=>simp at hj;subst hj;simp[Addr.add]
  |(j+3),hj=>simp at hj
 case c2=>intro u hu;simp at hu;rcases hu with rfl|rfl|rfl<;>rfl
 case c3=>unfold maxLen;omega
 case c4=>omega
 case c5=>simp;omega
 intro v' w2 D0 D1 _;go_wp2;go_ret;exact⟨_,rfl,D0,_,D1⟩
theorem a35(B:Nat)(v:Value)(n:Nat)(xs:List Value)(r:Int)(h0:57343<r)(h1:r<=65535)(w:World)(D2:w.ownsRow B 5 1 v n xs)(D3:n+4<=140737488355328)(E2:B<=w.heap.size) :
 Calls Tryz.prog 247 #[v,.int .i32 r] w fun e w' => ∃v',e=.returned v'/\w'.ownsRow B 5 1 v' (n+3) (xs++[.int .u8 (224+r/4096),.int .u8 (128+r/64%64),.int .u8 (128+r%64)])/\∃o,(w.alloc o).grownBy w' v.ownBlock:=by
 obtain⟨i0,hi,D9,E0,E1⟩:=info_parts a2T;go_enter Tryz.func247,Tryz.ntmps247
 go_wp2_with (at_builtin;refine wpList_append_own _ rfl _ _ 22 rfl B 5 i0 (.int .u8 0) 1 1 Tryz.underlying22 hi D9 E0 E1 rfl (by decide) _ _ _ rfl (D2.alloc _) ⟨w.heap.size,0,none⟩ 3 3 [.int .u8 (224+r/4096),.int .u8 (128+r/64%64),.int .u8 (128+r%64)] rfl rfl ?c1 ?c2 ?c3 ?c4 ?c5 ?_)
 case c1 =>
  intro j u hj
  match j,hj with
  |0,hj=>simp at hj;subst hj;simp[Addr.add]
  |1,hj=>simp at hj;subst hj;simp[Addr.add]
  |2,hj=>simp at hj;subst hj;simp[Addr.add]
  |(j+3),hj=>simp at hj
 case c2=>intro u hu;simp at hu;rcases hu with rfl|rfl|rfl<;>rfl
 case c3=>unfold maxLen;omega
 case c4=>omega
 case c5=>simp;omega
 intro v' w2 D0 D1 _;go_wp2;go_ret;exact⟨_,rfl,D0,_,D1⟩
theorem a7n(B:Nat)(v:Value)(n:Nat)(xs:List Value)(r:Int)(h0:65536<=r)(h1:r<=1114111)(w:World)(D2:w.ownsRow B 5 1 v n xs)(D3:n+4<=140737488355328)(E2:B<=w.heap.size) :
 Calls Tryz.prog 247 #[v,.int .i32 r] w fun e w' => ∃v',e=.returned v'/\w'.ownsRow B 5 1 v' (n+4) (xs++[.int .u8 (240+r/262144),.int .u8 (128+r/4096%64),.int .u8 (128+r/64%64),.int .u8 (128+r%64)])/\∃o,(w.alloc o).grownBy w' v.ownBlock:=by
 obtain⟨i0,hi,D9,E0,E1⟩:=info_parts a2T;go_enter Tryz.func247,Tryz.ntmps247
 go_wp2_with (at_builtin;refine wpList_append_own _ rfl _ _ 22 rfl B 5 i0 (.int .u8 0) 1 1 Tryz.underlying22 hi D9 E0 E1 rfl (by decide) _ _ _ rfl (D2.alloc _) ⟨w.heap.size,0,none⟩ 4 4 [.int .u8 (240+r/262144),.int .u8 (128+r/4096%64),.int .u8 (128+r/64%64),.int .u8 (128+r%64)] rfl rfl ?c1 ?c2 ?c3 ?c4 ?c5 ?_)
 case c1 =>
  intro j u hj
  match j,hj with
  |0,hj=>simp at hj;subst hj;simp[Addr.add]
  |1,hj=>simp at hj;subst hj;simp[Addr.add]
  |2,hj=>simp at hj;subst hj;simp[Addr.add]
  |3,hj=>simp at hj;subst hj;simp[Addr.add]
  |(j+4),hj=>simp at hj
 case c2=>intro u hu;simp at hu;rcases hu with rfl|rfl|rfl|rfl<;>rfl
 case c3=>unfold maxLen;omega
 case c4=>omega
 case c5=>simp;omega
 intro v' w2 D0 D1 _;go_wp2;go_ret;exact⟨_,rfl,D0,_,D1⟩
theorem a9K(B:Nat)(v:Value)(n:Nat)(xs:List Value)(r:Int)(h0:0<=r)(h1:r<=127)(w:World)(D2:w.ownsRow B 5 1 v n xs)(D3:n+4<=140737488355328)(E2:B<=w.heap.size) :
 Calls Tryz.prog 244 #[v,.int .i32 r] w fun e w' => ∃v',e=.returned v'/\w'.ownsRow B 5 1 v' (n+1) (xs++[.int .u8 (r)])/\∃o,(w.alloc o).grownBy w' v.ownBlock:=by
 obtain⟨i0,hi,D9,E0,E1⟩:=info_parts a2T;go_enter Tryz.func244,Tryz.ntmps244
 go_wp2_with (at_builtin;refine wpList_append_own _ rfl _ _ 22 rfl B 5 i0 (.int .u8 0) 1 1 Tryz.underlying22 hi D9 E0 E1 rfl (by decide) _ _ _ rfl (D2.alloc _) ⟨w.heap.size,0,none⟩ 1 1 [.int .u8 (r)] rfl rfl ?c1 ?c2 ?c3 ?c4 ?c5 ?_)
 case c1 =>
  intro j u hj
  match j,hj with
  |0,hj=>simp at hj;subst hj;simp[Addr.add]
  |(j+1),hj=>simp at hj
 case c2=>intro u hu;simp at hu;subst hu;rfl
 case c3=>unfold maxLen;omega
 case c4=>omega
 case c5=>simp;omega
 intro v' w2 D0 D1 _;go_wp2;go_ret;exact⟨_,rfl,D0,_,D1⟩
theorem a86(B:Nat)(v:Value)(n:Nat)(xs:List Value)(r:Int)(hc:R7 r=true)(h1:127<r)(w:World)(D0:w.ownsRow B 5 1 v n xs)(D1:n+4<=140737488355328)(D2:B<=w.heap.size) :
 Calls Tryz.prog 247 #[v,.int .i32 r] w fun e w' => ∃v',e=.returned v'/\w'.ownsRow B 5 1 v' (n+(N6 r).length) (xs++u8s (N6 r))/\∃o,(w.alloc o).grownBy w' v.ownBlock:=by
 simp only[R7,t8]at hc;rcases(show r<=2047∨(2048<=r/\r<55296)∨(57343<r/\r<=65535)∨65536<=r from by omega)with h|h|h|h
 ·have e:N6 r=[192+r/64,128+r%64]:=by simp only[N6];rw[f6 (by omega),g8 (by omega)]
  rw[e];exact a85 B v n xs r (by omega) h w D0 D1 D2
 ·have e:N6 r=[224+r/4096,128+r/64%64,128+r%64]:=by simp only[N6];rw[f6 (by omega),f6 (by omega),g8 (by omega)]
  rw[e];exact a34 B v n xs r h.1 h.2 w D0 D1 D2
 ·have e:N6 r=[224+r/4096,128+r/64%64,128+r%64]:=by simp only[N6];rw[f6 (by omega),f6 (by omega),g8 (by omega)]
  rw[e];exact a35 B v n xs r h.1 h.2 w D0 D1 D2
 ·have e:N6 r=[240+r/262144,128+r/4096%64,128+r/64%64,128+r%64]:=by simp only[N6];rw[f6 (by omega),f6 (by omega),f6 (by omega)]
  rw[e];exact a7n B v n xs r h (by omega) w D0 D1 D2
theorem a9J(B:Nat)(v:Value)(n:Nat)(xs:List Value)(r:Int)(hc:R7 r=true)(h1:127<r)(hr:r<=1114111)(w:World)(D0:w.ownsRow B 5 1 v n xs)(D2:n+4<=140737488355328)(D3:B<=w.heap.size) :
 Calls Tryz.prog 244 #[v,.int .i32 r] w fun e w' => ∃v',e=.returned v'/\w'.ownsRow B 5 1 v' (n+(N6 r).length) (xs++u8s (N6 r))/\∃o,(w.alloc o).grownBy w' v.ownBlock:=by
 have HC:=a86 B v n xs r hc h1 w D0 D2 D3;clear hc D0;go_enter Tryz.func244,Tryz.ntmps244
 go_wp2_with (go_at_call 247;refine HC.mono ?_;rintro e w' ⟨v',rfl,D1,ho⟩)
 go_ret;exact⟨_,rfl,D1,ho⟩
theorem b2S(B:Nat)(v:Value)(n:Nat)(xs:List Value)(r:Int)(hc:R7 r=true)(w:World)(D0:w.ownsRow B 5 1 v n xs)(D1:n+4<=140737488355328)(D2:B<=w.heap.size) :
 Calls Tryz.prog 244 #[v,.int .i32 r] w fun e w' => ∃v',e=.returned v'/\w'.ownsRow B 5 1 v' (n+(N6 r).length) (xs++u8s (N6 r))/\∃o,(w.alloc o).grownBy w' v.ownBlock:=by
 have hc':=hc;simp only[R7,t8]at hc';by_cases h:r<=127
 ·have e:N6 r=[r]:=by simp only[N6];rw[g8 h]
  rw[e];exact a9K B v n xs r hc'.1 h w D0 D1 D2
 ·exact a9J B v n xs r hc (by omega) (by omega) w D0 D1 D2
end
section
open Go.RowKit
theorem a0G(r:Int)(w:World):Calls Tryz.prog 235 #[.int .i32 r] w fun e w'=>e=.returned (.bool (R7 r))/\w=w':=by
 go_enter Tryz.func235,Tryz.ntmps235;go_wp2
 all_goals
  go_ret;refine⟨N5 ?_,rfl⟩;rw[A8];simp[R7]
  try omega
def b5y(B:Nat)(w:World)(zs:List Int)(e:Ending)(w':World):Prop :=
 Below B w w'/\((zs.all R7=true/\∃v,e=.returned (.tuple #[v,.bool true])/\w'.ownsRow B 5 1 v (a2n zs).length (u8s (a2n zs))) ∨
  (zs.all R7=false/\e=.returned (.tuple #[.slice none 0 0,.bool false])))
def b1H(w:World)(zs:List Int)(v i:Value)(wr:World):Prop :=
 ∃k:Nat,k<=zs.length/\i=.int .i64 k/\(zs.take k).all R7=true/\wr.ownsRow w.heap.size 5 1 v (a2n (zs.take k)).length (u8s (a2n (zs.take k)))/\Below w.heap.size w wr
theorem a7E(zs:List Int)(k:Nat)(h:k<zs.length):zs.take (k+1)=zs.take k++[zs[k]]:=l8 h
theorem a7t{w wr w1:World}{zs:List Int}{v v1:Value}{k:Nat}{o:Obj}(hk:k<zs.length)(ha:(zs.take k).all R7=true)(hc:R7 zs[k]=true)
 (D0:wr.ownsRow w.heap.size 5 1 v (a2n (zs.take k)).length (u8s (a2n (zs.take k)))) (hb:Below w.heap.size w wr)
 (h1:w1.ownsRow w.heap.size 5 1 v1 ((a2n (zs.take k)).length+(N6 zs[k]).length) (u8s (a2n (zs.take k))++u8s (N6 zs[k]))) (hg:(wr.alloc o).grownBy w1 v.ownBlock) :
 b1H w zs v1 (.int .i64 ((k:Int)+1)) w1:=by
 refine⟨k+1,hk,by go_num,by rw[a7E zs k hk,List.all_append,ha];simp[hc],?_,?_⟩
 ·rw[a7E zs k hk,b48,a6d,e8]
  exact h1
 ·refine(hb.alloc hb.size o).grown hg (by have:=hb.size;simp;omega) ?_
  intro g hg';rcases D0.2 with⟨rfl,_⟩|⟨g',cap,cur,rfl,D1,_⟩
  ·simp[Value.ownBlock]at hg'
  ·simp[Value.ownBlock]at hg'
   omega
theorem b5m(A:Option Addr)(c:Nat)(zs:List Int)(w:World)(hl:Q3 w w.heap.size A (W6 zs))(hn:zs.length<=100000) :
 Calls Tryz.prog 240 #[.slice A zs.length c] w (b5y w.heap.size w zs):=by
 go_enter Tryz.func240,Tryz.ntmps240;go_wp2
 go_loopw [4,9] (b1H w zs) (fun _ i _=>zs.length-(intOf i).toNat)
 case atStart=>exact⟨0,o4 _,rfl,rfl,r5 _ _ _ _,b8 _ _⟩
 case round =>
  obtain⟨k,hk,rfl,D0,D1,hb⟩:=hrel;by_cases E1:k<zs.length
  ·obtain⟨b,o,rfl,E2,D2⟩:=hl (by intro h;simp[W6]at h;subst h;simp at E1)
   have E3:wr.cell? ⟨b,o+k,none⟩=some (.int .i32 zs[k]):=by
    have:=(hb.cell (p:=⟨b,o+k,none⟩) E2).trans (D2 k (by simpa [W6]using E1))
    simpa [W6]using this
   clear D2 hl;have E6:=b8Y (zs.take k);have E4:(zs.take k).length<=k:=List.length_take_le _ _;generalize hz:zs[k]=z at E3;have HZ:=a8 hz;clear hz;cases D3:R7 z with
   |true =>
    have D9:=a8 D0;clear D0;have HC:=b2S w.heap.size
    go_wp2_with (first|(go_at_call 235;refine(a0G _ _).mono ?_;rintro e w' ⟨rfl,rfl⟩;rw[D3])|(go_at_call 244;refine(HC _ _ _ _ D3 _ D1 (by omega) hb.size).mono ?_;rintro e w' ⟨v',rfl,E0,ob,E5⟩))
    go_roundw
    case rel=>exact a7t E1 D9.out (by rw[HZ.out];exact D3) D1 hb (by rw[HZ.out];exact E0) E5
    case measure=>simp[intOf];omega
   |false =>
    go_wp2_with (first|(go_at_call 235;refine(a0G _ _).mono ?_;rintro e w' ⟨rfl,rfl⟩;rw[D3]))
    go_ret2
    refine⟨hb,.inr ⟨?_,rfl⟩⟩;rw[List.all_eq_false];exact⟨z,by rw[<-HZ.out];exact o0 _,by simp[D3]⟩
  ·go_wp2
   go_ret2
   have e:zs.take k=zs:=C0 (by omega)
   rw[e]at D0 D1;exact⟨hb,.inl ⟨D0,_,rfl,D1⟩⟩
end
end Go.Proofs.YtlgcigmolfhamaaGreatDoor
