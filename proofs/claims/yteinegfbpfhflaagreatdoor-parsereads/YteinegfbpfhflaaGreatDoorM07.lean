/-
  utf.Valid. Conditions: the two tables of unicode/utf8 lie as they are laid.
  utf.Chars: the characters of bytes, or nothing and false. Conditions: the two tables of unicode/utf8 lie as they are laid; there are not too many bytes.
  The plain tests on numbers: which characters may stand in a document. Conditions: none.
  utf.Text and the document's own answer for it. Conditions: the two tables of unicode/utf8 lie as they are laid; there are not too many bytes.
  Names, on lists of bytes and of characters: what is one, how long a text is one, a full name's parts. Conditions: none.
  The document's own tests on characters of names, and the tests on blanks, the document's and the program's. Conditions: none.
-/
import Derived.Test.YteinegfbpfhflaaGreatDoorValid
import Derived.Test.YteinegfbpfhflaaGreatDoorM00
import Derived.Test.YteinegfbpfhflaaGreatDoorM05
import Derived.Laws.IdiomStrings
import Derived.Laws.AppendOwn
import Derived.Laws.RangeString
import Derived.Laws.RangeAny
namespace Go.Proofs.YteinegfbpfhflaaGreatDoor
set_option linter.unusedVariables false
set_option maxHeartbeats 1000000
section
open Go.RowKit
theorem o5(A:Option Addr)(c:Nat)(bs:List UInt8)(w:World)(hT:qw w)(hl:en w w.heap.size A (ec bs))(hc:bs.length<=c)(hcm:c<=9223372036854775807) :
 Calls Tryz.prog 48 #[.slice A bs.length c] w fun e w'=>e=.returned (.bool (Lib.validD bs))/\Below w.heap.size w w':=by
 have H:=aa (zB A c bs w hT hl hc hcm);clear hl hT;go_enter Tryz.func48,Tryz.ntmps48
 go_wp2_with (go_at_call 81;refine H.out.mono ?_;rintro e w' ⟨rfl,hb⟩)
 go_ret;exact⟨rfl,hb⟩
end
section
open Go.RowKit
theorem rS(l1:List Int)(r:Int)(l2:List Int)(hr:eA r=true)(s:ByteArray)(hs:s.data.toList=bg l1++(bD r++bg l2)) :
 Utf8.decode s (bg l1).length=(r.toNat,(bD r).length):=by
 rw[<-Lib.decodeL_drop,hs,List.drop_left,oG hr]
theorem pu(s:ByteArray):∀(l2 l1:List Int) (bound:Nat) (acc:Array Value),l2.all eA=true->s.data.toList=bg l1++bg l2->(bg l2).length<=bound ->
 Conv.runesFrom s bound (bg l1).length acc=acc++(fo l2).toArray
 | [],l1,bound,acc,_,hs,_=>by
  have hsz:¬(bg l1).length<s.size:=by
   have:=congrArg List.length hs;have e:s.size=s.data.toList.length:=Lib.size_eq s;rw[e,this];simp[bg]
  have ee:fo []=[]:=rfl;rw[ee];cases bound with
  |zero=>simp[Conv.runesFrom]
  |succ n=>simp[Conv.runesFrom,hsz]
 |r::l2,l1,bound,acc,hall,hs,hb=>by
  rw[List.all_cons,aO]at hall;have hp:=dY r;rw[cZ,aj]at hb;obtain⟨n,rfl⟩ : ∃n,bound=n+1:=⟨bound-1,by omega⟩
  have hsz:(bg l1).length<s.size:=by
   have:=congrArg List.length hs;have e:s.size=s.data.toList.length:=Lib.size_eq s;rw[e,this,cZ,aj,aj];omega
  have hd:=rS l1 r l2 hall.1 s (by rw[hs,cZ])
  have hr0:=(eG.1 hall.1).1;have e1:(bg l1).length+(bD r).length=(bg (l1++[r])).length:=by rw[de,aj];simp[bg]
  unfold Conv.runesFrom;rw[av hsz,hd];dsimp only;rw[e1,pu s l2 (l1++[r]) n _ hall.2 (by rw[hs,de,cZ];simp[bg]) (by omega)]
  have e2:Int.ofNat r.toNat=r:=by simp;omega
  rw[e2];simp[fo]
theorem zR(l:List Int)(h:l.all eA=true):Conv.runesFrom ⟨(bg l).toArray⟩ (⟨(bg l).toArray⟩ : ByteArray).size 0 #[]=(fo l).toArray:=by
 have:=pu ⟨(bg l).toArray⟩ l [] (⟨(bg l).toArray⟩ : ByteArray).size #[] h (by simp[bg]) (by simp[ByteArray.size])
 simpa [bg]using this
def sc(bs:List UInt8)(e:Ending)(w':World):Prop :=
 (∃l A cap,l.all eA=true/\bs=bg l/\e=.returned (.tuple #[.slice A l.length cap,.bool true])/\en w' w'.heap.size A (fo l)/\l.length<=cap)∨(Lib.validD bs=false/\e=.returned (.tuple #[.slice none 0 0,.bool false]))
theorem Bp(A:Option Addr)(c:Nat)(bs:List UInt8)(w:World)(hT:qw w)(hl:en w w.heap.size A (ec bs))(hc:bs.length<=c)(hcm:c<=9223372036854775807)(hn:bs.length<=2000000) :
 Calls Tryz.prog 195 #[.slice A bs.length c] w fun e w'=>sc bs e w'/\Below w.heap.size w w':=by
 have HVa:=aa (o5 A c bs w hT hl hc hcm);clear hT;cases hv:Lib.validD bs with
 |false =>
  have HVx:Hid (Lib.validD bs=false):=aa hv;clear hl;go_enter Tryz.func195,Tryz.ntmps195
  go_wp2_with (go_at_call 48;refine HVa.out.mono ?_;rintro e w' ⟨rfl,hb⟩;rw[HVx.out])
  go_ret2
  exact⟨.inr ⟨HVx.out,rfl⟩,hb⟩
 |true =>
  obtain⟨l,hall,hbs⟩:=(iX bs).1 hv;have HVx:Hid (Lib.validD bs=true):=aa hv;have HLi:=aa hl;have HALL:=aa hall;have HBS:=aa hbs;have hll:l.length<=2000000:=by have:=jJ l;rw[<-hbs]at this;omega
  clear hl hv hall hbs;go_enter Tryz.func195,Tryz.ntmps195
  go_wp2_with fail
  refine HVa.out.mono ?_;rintro e w1⟨rfl,hb⟩;rw[HVx.out];have hcv:=cF c (HLi.out.below hb);obtain⟨C,hC⟩ : ∃C:Array Value,(fo l).toArray=C:=⟨_,rfl⟩;have hrn:Conv.runesFrom ⟨bs.toArray⟩ (⟨bs.toArray⟩ : ByteArray).size 0 #[]=C:=by rw[HBS.out,zR l HALL.out,hC]
  have hCs:C.size=l.length:=by rw[<-hC];simp[fo]
  have hrun:=run_runes_of_string (P:=Tryz.prog) w1 9 92 21 ⟨bs.toArray⟩ Tryz.underlying9 Tryz.underlying92 Tryz.underlying21 (by rw[hrn,hCs];omega)
  rw[hrn,hCs]at hrun;obtain⟨cap,hcap⟩ : ∃cap,grownCap w1 l.length 0 21 = cap:=⟨_,rfl⟩;rw[hcap]at hrun;have hge:l.length<=cap:=by rw[<-hcap];exact grownCap_ge _ _ _ _
  have HGE:=aa hge;obtain⟨O,hO⟩ : ∃O,Obj.cells (C++Array.replicate (cap-l.length) (.int .i32 0)) 21 = O:=⟨_,rfl⟩;rw[hO]at hrun;have HO:=aa hO;have HCC:=aa hC;have HCS:=aa hCs;clear hcap hO hC hCs hrn HVa hge;go_wp2
  go_ret2
  have hbf:Below w.heap.size w (w1.drew.alloc O):=hb.drew.alloc hb.size O;refine⟨.inl ⟨l,some ⟨w1.heap.size,0,none⟩,cap,HALL.out,HBS.out,rfl,?_,HGE.out⟩,hbf⟩;intro hne;refine⟨w1.heap.size,0,rfl,by simp,fun j hj => ?_⟩
  have hj':j<l.length:=by simpa [fo]using hj
  rw[<-HO.out,ci]
  show(w1.drew.alloc _).cell? ⟨w1.drew.heap.size,j,none⟩=_
  rw[World.cell?_alloc_mark,Array.getElem?_append_left (by rw[HCS.out];exact hj'),<-HCC.out]
  simp
end
section
open Go.RowKit
theorem oj(r:Int)(w:World):Calls Tryz.prog 49 #[.int .i32 r] w fun e w'=>e=.returned (.bool (ep r))/\w=w':=by
 go_enter Tryz.func49,Tryz.ntmps49;go_wp2
 all_goals
  go_ret;refine⟨dH ?_,rfl⟩;simp only[bc,ak,ne_eq]at *;rw[bm];simp[ep]
  try omega
theorem lu(r:Int)(w:World):Calls Tryz.prog 56 #[.int .i32 r] w fun e w'=>e=.returned (.bool (ep r))/\w=w':=by
 go_enter Tryz.func56,Tryz.ntmps56
 go_wp2_with (go_at_call 99;refine(jo _ _).mono ?_;rintro e w' ⟨rfl,rfl⟩)
 all_goals
  go_ret;refine⟨dH ?_,rfl⟩;rw[bm];simp only[eA,bj]at *;simp[ep]
  try omega
end
section
open Go.RowKit
def t8(bs:List UInt8)(e:Ending):Prop :=
 (∃l,l.all eA=true/\bs=bg l/\e=.returned (.bool (l.all ep)))∨(Lib.validD bs=false/\e=.returned (.bool false))
def Jj(w:World)(s:ByteArray)(l:List Int)(v:Value)(wr:World):Prop :=
 ∃k:Nat,k<=l.length/\(l.take k).all ep=true/\wr=w.iter s (bg (l.take k)).length
theorem wC(p:Int->Bool)(l:List Int)(k:Nat)(h:k<l.length):(l.take (k+1)).all p=((l.take k).all p&&p l[k]):=by
 rw[aN h,List.all_append];simp
theorem Dm(l:List Int)(k:Nat)(h:k<l.length):bg l=bg (l.take k)++(bD l[k]++bg (l.drop (k+1))):=by
 conv=>lhs;rw[<-cG k l,bv h,de,cZ]
theorem qm{w w1:World}(h:Below w.heap.size w w1)(s:ByteArray)(pos:Nat):Below w.heap.size w (w1.iter s pos):=h.alloc h.size _
theorem pb(A:Option Addr)(c:Nat)(bs:List UInt8)(w:World)(hT:qw w)(hl:en w w.heap.size A (ec bs))(hc:bs.length<=c)(hcm:c<=9223372036854775807)(hn:bs.length<=2000000) :
 Calls Tryz.prog 27 #[.slice A bs.length c] w fun e w'=>t8 bs e/\Below w.heap.size w w':=by
 have HVa:=aa (o5 A c bs w hT hl hc hcm);clear hT;cases hv:Lib.validD bs with
 |false =>
  have HVx:Hid (Lib.validD bs=false):=aa hv;clear hl;go_enter Tryz.func27,Tryz.ntmps27
  go_wp2_with (go_at_call 48;refine HVa.out.mono ?_;rintro e w' ⟨rfl,hb⟩;rw[HVx.out])
  go_ret;exact⟨.inr ⟨HVx.out,rfl⟩,hb⟩
 |true =>
  obtain⟨l,hall,hbs⟩:=(iX bs).1 hv;have HVx:Hid (Lib.validD bs=true):=aa hv;have HLi:=aa hl;have HALL:=aa hall;have HBS:=aa hbs;clear hl hv hall hbs;go_enter Tryz.func27,Tryz.ntmps27
  go_wp2_with fail
  refine HVa.out.mono ?_;rintro e w1⟨rfl,hb⟩;rw[HVx.out];have hcv:=cF c (HLi.out.below hb);obtain⟨s,hs⟩ : ∃s:ByteArray,⟨bs.toArray⟩=s:=⟨_,rfl⟩;rw[hs]at hcv;have hsl:s.data.toList=bg l:=by rw[<-hs,HBS.out]
  have HS:=aa hsl;clear hs hsl HVa HLi;go_wp2
  go_loopw [4] (Jj w1 s l) (fun _ w'=>s.size-w'.iterPos w1.heap.size)
  case atStart=>exact⟨0,aM _,rfl,rfl⟩
  case round =>
   obtain⟨k,hk,hx,rfl⟩:=hrel;have HX:=aa hx;clear hx;by_cases hlt:k<l.length
   ·have hchk:eA l[k]=true:=bK.1 HALL.out _ (aJ _)
    have hd:=rS (l.take k) l[k] (l.drop (k+1)) hchk s (by rw[HS.out];exact Dm l k hlt)
    have hr0:=(eG.1 hchk).1
    have hp:(bg (l.take k)).length<s.size:=by
     rw[Lib.size_eq,HS.out,Dm l k hlt,aj,aj];have:=dY l[k];omega
    have e1:(bg (l.take k)).length+(bD l[k]).length=(bg (l.take (k+1))).length:=by
     rw[aN hlt,de,aj];simp[bg]
    have hnx:=fun ty=>run_next_any (P:=Tryz.prog) w1 s (bg (l.take k)).length ty hp;rw[hd]at hnx;dsimp only at hnx;have er:((l[k].toNat:Nat):Int)=l[k]:=Int.toNat_of_nonneg hr0;rw[er,e1]at hnx;have hgrow:(bg (l.take k)).length<(bg (l.take (k+1))).length:=by rw[<-e1];have:=dY l[k];omega
    have hAs:=wC ep l k hlt;generalize (bg (l.take k)).length=p0 at hp hnx hgrow ⊢;obtain⟨p1,hp1⟩ : ∃p1,(bg (l.take (k+1))).length=p1:=⟨_,rfl⟩;rw[hp1]at hnx hgrow;generalize l[k]=z at hnx hAs hd;have HAS:=aa hAs;have HP1:=aa hp1;clear hchk hd hr0 er e1 hAs hp1;cases hxz:ep z with
    |true =>
     go_wp2_with (go_at_call 49;refine(oj _ _).mono ?_;rintro e w' ⟨rfl,rfl⟩;rw[hxz])
     go_roundw
     case rel=>exact⟨k+1,hlt,by rw[HAS.out,HX.out,hxz];rfl,by rw[HP1.out]⟩
     case measure=>simp;omega
    |false =>
     go_wp2_with (go_at_call 49;refine(oj _ _).mono ?_;rintro e w' ⟨rfl,rfl⟩;rw[hxz])
     go_ret;refine⟨.inl ⟨l,HALL.out,HBS.out,?_⟩,qm hb _ _⟩
     have:l.all ep=false:=by
      have h1:(l.take (k+1)).all ep=false:=by rw[HAS.out,hxz];simp
      rw[<-cG (k+1) l,List.all_append,h1];rfl
     rw[this];rfl
   ·have hke:l.take k=l:=bC (by omega)
    have hp:¬(bg (l.take k)).length<s.size:=by rw[hke,Lib.size_eq,HS.out];omega
    have hnx:=fun ty=>run_next_end (P:=Tryz.prog) w1 s (bg (l.take k)).length ty hp;have hfin:l.all ep=true:=by rw[<-hke];exact HX.out
    have HF:=aa hfin;clear hke hfin;go_wp2;go_ret;refine⟨.inl ⟨l,HALL.out,HBS.out,?_⟩,qm hb _ _⟩;rw[HF.out];rfl
def Iq(w:World)(l:List Int)(v i:Value)(wr:World):Prop :=
 ∃k:Nat,k<=l.length/\i=.int .i64 k/\v=.bool ((l.take k).all ep)/\Below w.heap.size w wr
theorem jX(A:Option Addr)(c:Nat)(bs:List UInt8)(w:World)(hl:en w w.heap.size A (ec bs))(hc:bs.length<=c)(hcm:c<=9223372036854775807)(hn:bs.length<=2000000) :
 Calls Tryz.prog 31 #[.slice A bs.length c] w fun e w'=>t8 bs e/\Below w.heap.size w w':=by
 have HC:=aa (sI A c bs w hl hc hcm hn);clear hl;go_enter Tryz.func31,Tryz.ntmps31
 go_wp2_with fail
 refine HC.out.mono ?_;rintro e w1⟨⟨l,v,hall,hbs,rfl,hown⟩|⟨hv,rfl⟩,hb⟩
 ·have hll:l.length<=2000000:=by have:=jJ l;rw[<-hbs]at this;omega
  have HALL:=aa hall;have HBS:=aa hbs;obtain⟨A2,cap,rfl,hle,hcm2,hli,_⟩:=pE hown;clear hall hbs hown HC;go_wp2
  go_loopw [4,13] (Iq w1 l) (fun _ i _=>l.length-(intOf i).toNat)
  case atStart=>exact⟨0,aM _,rfl,rfl,ae _ _⟩
  case round =>
   obtain⟨k,hk,rfl,rfl,hbw⟩:=hrel;by_cases hlt:k<l.length
   ·obtain⟨b,o,rfl,hbB,hcell⟩:=hli (by intro h;simp[fo]at h;subst h;simp at hlt)
    have hck:wr.cell? ⟨b,o+k,none⟩=some (.int .i32 l[k]):=by
     have:=(hbw.cell (p:=⟨b,o+k,none⟩) hbB).trans (hcell k (by simpa [fo]using hlt))
     simpa [fo]using this
    have HAS:=aa (wC ep l k hlt);clear hcell hli;generalize hz:l[k]=z at hck HAS;clear hz;generalize (l.take k).all ep=q at HAS ⊢;cases q with
    |true =>
     go_wp2_with (go_at_call 56;refine(lu _ _).mono ?_;rintro e w' ⟨rfl,rfl⟩)
     all_goals
      go_roundw
      case rel=>exact⟨k+1,hlt,by go_num,by rw[HAS.out];simp,hbw⟩
      case measure=>simp[intOf];omega
    |false =>
     go_wp2
     go_roundw
     case rel=>exact⟨k+1,hlt,by go_num,by rw[HAS.out];simp,hbw⟩
     case measure=>simp[intOf];omega
   ·have hke:l.take k=l:=bC (by omega)
    rw[hke];go_wp2;go_ret;exact⟨.inl ⟨l,HALL.out,HBS.out,rfl⟩,hb.trans (hbw.mono hb.size)⟩
 ·have HV:=aa hv
  clear hv;go_wp2;refine wp_loop_rounds 1 ?_;rw[rounds_succ];go_wp2;go_ret;exact⟨.inr ⟨HV.out,rfl⟩,hb⟩
end
def g8(r:Int):Bool:=decide ((65<=r/\r<=90)∨(97<=r/\r<=122)∨r=95∨(192<=r/\r<=214)∨(216<=r/\r<=246)∨(248<=r/\r<=767)∨(880<=r/\r<=893)∨(895<=r/\r<=8191)∨(8204<=r/\r<=8205)∨(8304<=r/\r<=8591)∨(11264<=r/\r<=12271)∨(12289<=r/\r<=55295)∨(63744<=r/\r<=64975)∨(65008<=r/\r<=65533)∨(65536<=r/\r<=983039))
def fK(r:Int):Bool:=g8 r||decide ((48<=r/\r<=57)∨r=45∨r=46∨r=183∨(768<=r/\r<=879)∨(8255<=r/\r<=8256))
theorem pg{r:Int}(h:g8 r=true):fK r=true:=by simp[fK,h]
theorem ss{r:Int}:fK r=true↔g8 r=true∨(48<=r/\r<=57)∨r=45∨r=46∨r=183∨(768<=r/\r<=879)∨(8255<=r/\r<=8256):=by simp[fK]
theorem yb{r:Int}(h:g8 r=true):eA r=true:=by
 rw[eG];simp only[g8,bj]at h;omega
theorem su{r:Int}(h:fK r=true):eA r=true:=by
 rcases ss.1 h with h|h
 ·exact yb h
 ·rw[eG];omega
theorem Gm:fK 58=false:=by decide
def oq:List Int->Bool
 | []=>true
 |r::l=>g8 r&&l.all fK
theorem tf:∀{l:List Int},oq l=true->l.all eA=true
 | [],_=>rfl
 |r::l,h=>by
  simp only[oq,aO]at h;rw[List.all_cons,aO];refine⟨yb h.1,?_⟩;rw[bK]at h ⊢;exact fun x hx=>su (h.2 x hx)
theorem td:∀{l:List Int},oq l=true->∀r∈l,fK r=true
 | [],_,r,hr=>by cases hr
 |s::l,h,r,hr=>by
  simp only[oq,aO,bK]at h;rcases aU.1 hr with rfl|hr
  ·exact pg h.1
  ·exact h.2 r hr
def lB(l:List Int)(r:Int):Bool:=match l with | []=>g8 r|_::_=>fK r
theorem pJ:∀(l:List Int) (r:Int),oq (l++[r])=(oq l&&lB l r)
 | [],r=>by simp[oq,lB]
 |s::l,r=>by simp[oq,lB,List.all_append,Bool.and_assoc]
theorem CK:∀{l:List Int} (n:Nat),oq l=true->oq (l.take n)=true
 | [],n,_=>by simp[oq]
 |r::l,0,_=>rfl
 |r::l,n+1,h=>by
  simp only[oq,List.take_succ_cons,aO,bK]at h ⊢;exact⟨h.1,fun x hx=>h.2 x (List.mem_of_mem_take hx)⟩
theorem Fg{l:List Int}{r:Int}(h:lB l r=true):eA r=true:=by
 cases l with
 |nil=>exact yb h
 |cons _ _=>exact su h
def nm(s:List UInt8):Prop:=∃l:List Int,l≠[]/\oq l=true/\s=bg l
structure mR(s:List UInt8)(l:List Int)(rest:List UInt8):Prop where
 eq:s=bg l++rest
 ok:oq l=true
 stop:∀r x,eA r=true->rest=bD r++x->lB l r=false
theorem mR.most:∀{a b:List Int} {x y:List UInt8} {c:List Int},oq (c++a)=true->oq (c++b)=true->bg a++x=bg b++y->(∀r z,eA r=true->x=bD r++z->lB (c++a) r=false)->∃d,a=b++d
 |a,[],x,y,c,_,_,_,_=>⟨a,rfl⟩
 | [],r::b,x,y,c,ha,hb,h,hs=>by
  exfalso
  have hr:lB c r=true:=by
   have e:c++r::b=(c++[r])++b:=by simp
   rw[e]at hb;have h2:=CK (c++[r]).length hb;rw[List.take_left,pJ,aO]at h2;exact h2.2
  have:=hs r (bg b++y) (Fg hr) (by simpa [cZ,bg]using h)
  rw[bo,hr]at this;cases this
 |s::a,r::b,x,y,c,ha,hb,h,hs=>by
  have cs:eA s=true:=bK.1 (tf ha) s (by simp)
  have cr:eA r=true:=bK.1 (tf hb) r (by simp)
  rw[cZ,cZ,List.append_assoc,List.append_assoc]at h;obtain⟨rfl,h2⟩:=mx cs cr h;have e1:c++s::a=(c++[s])++a:=by simp
  have e2:c++s::b=(c++[s])++b:=by simp
  obtain⟨d,rfl⟩:=mR.most (c:=c++[s]) (by rw[<-e1];exact ha) (by rw[<-e2];exact hb) h2 (by rw[<-e1];exact hs)
  exact⟨d,rfl⟩
theorem nu{l:List Int}(h:bg l=[]):l=[]:=by
 cases l with
 |nil=>rfl
 |cons r l =>
  have h1:=congrArg List.length h;rw[cZ,aj]at h1;have:=dY r;simp at h1;rw[h1.1]at this;simp at this
theorem mR.is{s rest:List UInt8}{l:List Int}(h:mR s l rest):nm s↔(l≠[]/\rest=[]):=by
 constructor
 ·rintro⟨k,hk,hn,e⟩
  obtain⟨d,hd⟩:=mR.most (c:=[]) (a:=l) (b:=k) (x:=rest) (y:=[]) (by simpa using h.ok) (by simpa using hn) (by rw[<-h.eq,e,bo]) (by simpa using h.stop)
  subst hd;have e2:=h.eq;rw[e,de,List.append_assoc]at e2
  have e3:bg d++rest=[]:=by
   have:=congrArg List.length e2;rw[aj]at this;exact aD (by omega)
  have hd0:bg d=[]:=(List.append_eq_nil_iff.1 e3).1;refine⟨fun h0=>hk (List.append_eq_nil_iff.1 h0).1,(List.append_eq_nil_iff.1 e3).2⟩
 ·rintro⟨h1,rfl⟩
  exact⟨l,h1,h.ok,by rw[h.eq,bo]⟩
theorem vQ{r:Int}(h:eA r=true){c:UInt8}(hc:c∈bD r)(h128:c.toNat<128):bD r=[c]/\r=(c.toNat:Int):=by
 rw[eG]at h;rcases(show r<=127∨(128<=r/\r<=2047)∨(2048<=r/\r<=65535)∨65536<=r from by omega)with e|e|e|e
 ·have he:bD r=[r.toNat.toUInt8]:=by simp only[bD,dJ];rw[av e];rfl
  rw[he]at hc ⊢;obtain rfl:=aW.1 hc;exact⟨rfl,by rw[cq h.1 (by omega)];omega⟩
 ·have he:bD r=[(192+r/64).toNat.toUInt8,(128+r%64).toNat.toUInt8]:=by simp only[bD,dJ];rw[am (by omega),av (by omega)];rfl
  exfalso
  rw[he]at hc;simp only[aU,bE,or_false]at hc;rcases hc with rfl|rfl
  ·rw[cq (by omega) (by omega)]at h128;omega
  ·rw[cq (by omega) (by omega)]at h128;omega
 ·have he:bD r=[(224+r/4096).toNat.toUInt8,(128+r/64%64).toNat.toUInt8,(128+r%64).toNat.toUInt8]:=by simp only[bD,dJ];rw[am (by omega),am (by omega),av (by omega)];rfl
  exfalso
  rw[he]at hc;simp only[aU,bE,or_false]at hc;rcases hc with rfl|rfl|rfl
  ·rw[cq (by omega) (by omega)]at h128;omega
  ·rw[cq (by omega) (by omega)]at h128;omega
  ·rw[cq (by omega) (by omega)]at h128;omega
 ·have he:bD r=[(240+r/262144).toNat.toUInt8,(128+r/4096%64).toNat.toUInt8,(128+r/64%64).toNat.toUInt8,(128+r%64).toNat.toUInt8]:=by simp only[bD,dJ];rw[am (by omega),am (by omega),am (by omega)];rfl
  exfalso
  rw[he]at hc;simp only[aU,bE,or_false]at hc;rcases hc with rfl|rfl|rfl|rfl
  ·rw[cq (by omega) (by omega)]at h128;omega
  ·rw[cq (by omega) (by omega)]at h128;omega
  ·rw[cq (by omega) (by omega)]at h128;omega
  ·rw[cq (by omega) (by omega)]at h128;omega
theorem Fr{r:Int}(h:fK r=true):(58:UInt8)∉bD r:=fun hc=>by
 obtain⟨_,e⟩:=vQ (su h) hc (by decide)
 have:r=58:=e;rw[this,Gm]at h;cases h
theorem vP{l:List Int}(h:∀r∈l,fK r=true):(58:UInt8)∉bg l:=fun hc=>by
 simp only[bg,List.mem_flatMap]at hc;obtain⟨r,hr,hc⟩:=hc;exact Fr (h r hr) hc
theorem FV{s:List UInt8}(h:nm s):(58:UInt8)∉s:=by
 obtain⟨l,_,hn,rfl⟩:=h;exact vP (td hn)
theorem CJ{s:List UInt8}(h:nm s):s≠[]:=by
 obtain⟨l,hl,_,rfl⟩:=h;exact fun e=>hl (nu e)
def lh(s p l:List UInt8):Prop:=(p=[]/\l=s/\nm s)∨(nm p/\nm l/\s=p++58::l)
theorem vX:∀{a b x y:List UInt8},(58:UInt8)∉a->(58:UInt8)∉b->a++58::x=b++58::y->a=b/\x=y
 | [],[],x,y,_,_,h=>by simpa using h
 | [],c::b,x,y,_,hb,h=>by simp at h;exact absurd h.1 (fun e=>hb (by simp[<-e]))
 |c::a,[],x,y,ha,_,h=>by simp at h;exact absurd h.1 (fun e=>ha (by simp[e]))
 |c::a,d::b,x,y,ha,hb,h=>by
  simp only[aA,aV]at h;obtain⟨e1,e2⟩:=vX (fun hc=>ha (by simp[hc])) (fun hc=>hb (by simp[hc])) h.2
  exact⟨by rw[h.1,e1],e2⟩
theorem lC{s p l:List UInt8}(h:(58:UInt8)∉s):lh s p l↔p=[]/\l=s/\nm s:=by
 constructor
 ·rintro(h' |⟨_,_,e⟩)
  ·exact h'
  ·exact absurd (show(58:UInt8)∈s by rw[e];simp) h
 ·exact .inl
theorem km{a b p l:List UInt8}(ha:(58:UInt8)∉a):lh (a++58::b) p l↔p=a/\l=b/\nm a/\nm b:=by
 constructor
 ·rintro(⟨_,_,hn⟩|⟨h1,h2,e⟩)
  ·exact absurd (show(58:UInt8)∈a++58::b by simp) (FV hn)
  ·obtain⟨rfl,rfl⟩:=vX ha (FV h1) e
   exact⟨rfl,rfl,h1,h2⟩
 ·rintro⟨rfl,rfl,h1,h2⟩
  exact .inr ⟨h1,h2,rfl⟩
theorem mR.full{s rest:List UInt8}{n:List Int}(h:mR s n rest)(p l:List UInt8):lh s p l↔(n≠[]/\((rest=[]/\p=[]/\l=s)∨(∃b,rest=58::b/\nm b/\p=bg n/\l=b))):=by
 have hno:=vP (td h.ok)
 constructor
 ·rintro(⟨rfl,rfl,hn⟩|⟨h1,h2,e⟩)
  ·obtain⟨hn0,hr⟩:=h.is.1 hn
   exact⟨hn0,.inl ⟨hr,rfl,rfl⟩⟩
  ·obtain⟨k,hk,hkn,rfl⟩:=h1
   obtain⟨d,rfl⟩:=mR.most (c:=[]) (a:=n) (b:=k) (x:=rest) (y:=58::l) (by simpa using h.ok) (by simpa using hkn) (by rw[<-h.eq,e]) (by simpa using h.stop)
   have e2:=h.eq;rw[e,de,List.append_assoc]at e2;have e3:58::l=bg d++rest:=List.append_cancel_left e2;cases d with
   |nil =>
    rw[bo]at *;exact⟨hk,.inr ⟨l,by simpa [bg]using e3.symm,h2,rfl,rfl⟩⟩
   |cons r d =>
    exfalso
    have hp:=dY r;rw[cZ]at e3;cases hr:bD r with
    |nil=>rw[hr]at hp;simp at hp
    |cons c t =>
     rw[hr]at e3;simp only[aA,aV]at e3;exact hno (by rw[de,cZ,hr,<-e3.1];simp)
 ·rintro⟨hn0,⟨rfl,rfl,rfl⟩|⟨b,rfl,hb,rfl,rfl⟩⟩
  ·exact .inl ⟨rfl,rfl,h.is.2 ⟨hn0,rfl⟩⟩
  ·exact .inr ⟨⟨n,hn0,h.ok,rfl⟩,hb,h.eq⟩
def fq(c:UInt8):Bool:=c==32||c==9||c==10||c==13
def fO(s:List UInt8):List UInt8:=s.dropWhile fq
def jz(s:List UInt8):List UInt8:=(fO (fO s).reverse).reverse
theorem ln(s:List UInt8):∃a b,s=a++(jz s++b)/\a.all fq=true/\b.all fq=true/\(∀c,(jz s).head? = some c->fq c=false)/\(∀c,(jz s).getLast? = some c->fq c=false):=by
 refine⟨s.takeWhile fq,((fO s).reverse.takeWhile fq).reverse,?_,List.all_takeWhile,by rw[List.all_reverse];exact List.all_takeWhile,?_,?_⟩
 ·have h1:(fO s).reverse=(fO s).reverse.takeWhile fq++fO (fO s).reverse:=List.takeWhile_append_dropWhile.symm
  have h2:fO s=jz s++((fO s).reverse.takeWhile fq).reverse:=by
   have:=congrArg List.reverse h1;rw[List.reverse_reverse,List.reverse_append]at this;exact this
  rw[<-h2];exact List.takeWhile_append_dropWhile.symm
 ·intro c hc
  have h1:(fO s).reverse=(fO s).reverse.takeWhile fq++fO (fO s).reverse:=List.takeWhile_append_dropWhile.symm
  have h2:fO s=jz s++((fO s).reverse.takeWhile fq).reverse:=by
   have:=congrArg List.reverse h1;rw[List.reverse_reverse,List.reverse_append]at this;exact this
  have h3:(fO s).head? = some c:=by rw[h2,List.head?_append,hc];rfl
  unfold fO at h3;have:=List.head?_dropWhile_not fq s;rw[h3]at this;simpa using this
 ·intro c hc
  unfold jz at hc;rw[List.getLast?_reverse]at hc;unfold fO at hc;have:=List.head?_dropWhile_not fq (List.dropWhile fq s).reverse;rw[hc]at this;simpa using this
theorem nA{a:List UInt8}(ha:a.all fq=true)(x:List UInt8):(a++x).dropWhile fq=x.dropWhile fq:=by
 induction a with
 |nil=>rfl
 |cons c a ih =>
  rw[List.all_cons,aO]at ha;rw[aA,List.dropWhile_cons_of_pos ha.1];exact ih ha.2
theorem qg{x:List UInt8}(h:∀c,x.head? = some c->fq c=false):x.dropWhile fq=x:=by
 cases x with
 |nil=>rfl
 |cons c x=>rw[List.dropWhile_cons_of_neg (by rw[h c rfl];simp)]
theorem qQ{s a t b:List UInt8}(e:s=a++(t++b))(ha:a.all fq=true)(hb:b.all fq=true)(h1:∀c,t.head? = some c->fq c=false)(h2:∀c,t.getLast? = some c->fq c=false):jz s=t:=by
 subst e;unfold jz fO;rw[nA ha];have hbr:b.reverse.all fq=true:=by rw[List.all_reverse];exact hb
 cases t with
 |nil =>
  have hb0:b.dropWhile fq=[]:=by have:=nA hb [];simpa using this
  rw[aE,hb0];rfl
 |cons c t =>
  have h3:((c::t)++b).dropWhile fq=(c::t)++b:=qg (fun d hd=>h1 d (by simpa using hd))
  rw[h3,List.reverse_append,nA hbr,qg (fun d hd=>h2 d (by rwa [List.head?_reverse]at hd)),List.reverse_reverse]
section
open Go.RowKit
def IP(r a b:Int):Bool:=decide (a<=r/\r<=b)
theorem nZ(r a b:Int)(w:World):Calls Tryz.prog 202 #[.int .i32 r,.int .i32 a,.int .i32 b] w fun e w'=>e=.returned (.bool (IP r a b))/\w'=w:=by
 by_cases h1:a<=r<;>by_cases h2:r<=b
 all_goals
  go_enter Tryz.func202,Tryz.ntmps202;go_wp2;go_ret;exact⟨dH (by simp[IP];try omega),rfl⟩
def qk(z:Int):Bool:=decide (z=32∨z=9∨z=10∨z=13)
theorem gj(c:UInt8):qk (c.toNat:Int)=fq c:=by
 have h:∀n<256,qk (((UInt8.ofNat n).toNat:Nat):Int)=fq (UInt8.ofNat n):=by decide +kernel
 have:=h c.toNat c.toNat_lt
 rwa [UInt8.ofNat_toNat]at this
theorem gB(z:Int)(w:World):Calls Tryz.prog 126 #[.int .u8 z] w fun e w'=>e=.returned (.bool (qk z))/\w'=w:=by
 go_enter Tryz.func126,Tryz.ntmps126;go_wp2
 all_goals
  go_ret;refine⟨dH ?_,rfl⟩;rw[bm];simp[qk]
  try omega
theorem gW(z:Int)(w:World):Calls Tryz.prog 58 #[.int .u8 z] w fun e w'=>e=.returned (.bool (qk z))/\w'=w:=by
 go_enter Tryz.func58,Tryz.ntmps58;go_wp2
 all_goals
  go_ret;refine⟨dH ?_,rfl⟩;rw[bm];simp[qk]
  try omega
theorem lj(r:Int)(w:World):Calls Tryz.prog 182 #[.int .i32 r] w fun e w'=>e=.returned (.bool (g8 r))/\w'=w:=by
 go_enter Tryz.func182,Tryz.ntmps182
 go_wp2_with (go_at_call 202;refine(nZ _ _ _ _).mono ?_;rintro e w' ⟨rfl,rfl⟩)
 all_goals
  go_ret;refine⟨dH ?_,rfl⟩
  try simp only[IP,bj]at *
  rw[bm];simp[g8]
  try omega
theorem qA(r:Int)(w:World):Calls Tryz.prog 183 #[.int .i32 r] w fun e w'=>e=.returned (.bool (fK r))/\w'=w:=by
 have H:=aa (lj r);obtain⟨B,hB⟩ : ∃B,g8 r=B:=⟨_,rfl⟩;rw[hB]at H;have HB:=aa hB;clear hB;go_enter Tryz.func183,Tryz.ntmps183
 go_wp2_with (first|(go_at_call 202;refine(nZ _ _ _ _).mono ?_;rintro e w' ⟨rfl,rfl⟩)|(go_at_call 182;refine(H.out _).mono ?_;rintro e w' ⟨rfl,rfl⟩))
 all_goals
  go_ret;refine⟨dH ?_,rfl⟩
  try simp only[IP,bj]at *
  rw[bm,ss,HB.out];simp[*]
  try omega
end
end Go.Proofs.YteinegfbpfhflaaGreatDoor
