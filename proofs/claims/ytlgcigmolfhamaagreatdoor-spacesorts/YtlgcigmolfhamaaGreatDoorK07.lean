/-
  utf.Valid. Conditions: the two tables of unicode/utf8 lie as they are laid.
  utf.Chars: the characters of bytes, or nothing and false. Conditions: the two tables of unicode/utf8 lie as they are laid; there are not too many bytes.
  The plain tests on numbers: which characters may stand in a document. Conditions: none.
  utf.Text and the document's own answer for it. Conditions: the two tables of unicode/utf8 lie as they are laid; there are not too many bytes.
  Names, on lists of bytes and of characters: what is one, how long a text is one, a full name's parts. Conditions: none.
  The document's own tests on characters of names, and the tests on blanks, the document's and the program's. Conditions: none.
-/
import Derived.Test.YtlgcigmolfhamaaGreatDoorKValid
import Derived.Test.YtlgcigmolfhamaaGreatDoorK00
import Derived.Test.YtlgcigmolfhamaaGreatDoorK05
import Derived.Laws.IdiomStrings
import Derived.Laws.AppendOwn
import Derived.Laws.RangeString
import Derived.Laws.RangeAny
namespace Go.Proofs.YtlgcigmolfhamaaGreatDoor
set_option linter.unusedVariables false
set_option maxHeartbeats 1000000
section
open Go.RowKit
theorem a6b(A:Option Addr)(c:Nat)(bs:List UInt8)(w:World)(hT:a7k w)(hl:Q3 w w.heap.size A (P6 bs))(hc:bs.length<=c)(D0:c<=9223372036854775807) :
 Calls Tryz.prog 73 #[.slice A bs.length c] w fun e w'=>e=.returned (.bool (Lib.validD bs))/\Below w.heap.size w w':=by
 have H:=a8 (b34 A c bs w hT hl hc D0);clear hl hT;go_enter Tryz.func73,Tryz.ntmps73
 go_wp2_with (go_at_call 109;refine H.out.mono ?_;rintro e w' ⟨rfl,hb⟩)
 go_ret;exact⟨rfl,hb⟩
end
section
open Go.RowKit
theorem a8i(l1:List Int)(r:Int)(l2:List Int)(hr:R7 r=true)(s:ByteArray)(hs:s.data.toList=y9 l1++(C3 r++y9 l2)) :
 Utf8.decode s (y9 l1).length=(r.toNat,(C3 r).length):=by
 rw[<-Lib.decodeL_drop,hs,List.drop_left,a5S hr]
theorem a6n(s:ByteArray):∀(l2 l1:List Int) (bound:Nat) (acc:Array Value),l2.all R7=true->s.data.toList=y9 l1++y9 l2->(y9 l2).length<=bound ->
 Conv.runesFrom s bound (y9 l1).length acc=acc++(W6 l2).toArray
 | [],l1,bound,acc,_,hs,_=>by
  have D0:¬(y9 l1).length<s.size:=by
   have:=congrArg List.length hs;have e:s.size=s.data.toList.length:=Lib.size_eq s;rw[e,this];simp[y9]
  have ee:W6 []=[]:=rfl;rw[ee];cases bound with
  |zero=>simp[Conv.runesFrom]
  |succ n=>simp[Conv.runesFrom,D0]
 |r::l2,l1,bound,acc,hall,hs,hb=>by
  rw[List.all_cons,i4]at hall;have hp:=P7 r;rw[J4,e8]at hb;obtain⟨n,rfl⟩ : ∃n,bound=n+1:=⟨bound-1,by omega⟩
  have D0:(y9 l1).length<s.size:=by
   have:=congrArg List.length hs;have e:s.size=s.data.toList.length:=Lib.size_eq s;rw[e,this,J4,e8,e8];omega
  have hd:=a8i l1 r l2 hall.1 s (by rw[hs,J4])
  have D1:=(S6.1 hall.1).1;have e1:(y9 l1).length+(C3 r).length=(y9 (l1++[r])).length:=by rw[K7,e8];simp[y9]
  unfold Conv.runesFrom;rw[g8 D0,hd];dsimp only;rw[e1,a6n s l2 (l1++[r]) n _ hall.2 (by rw[hs,K7,J4];simp[y9]) (by omega)]
  have e2:Int.ofNat r.toNat=r:=by simp;omega
  rw[e2];simp[W6]
theorem b4n(l:List Int)(h:l.all R7=true):Conv.runesFrom ⟨(y9 l).toArray⟩ (⟨(y9 l).toArray⟩ : ByteArray).size 0 #[]=(W6 l).toArray:=by
 have:=a6n ⟨(y9 l).toArray⟩ l [] (⟨(y9 l).toArray⟩ : ByteArray).size #[] h (by simp[y9]) (by simp[ByteArray.size])
 simpa [y9]using this
def a8t(bs:List UInt8)(e:Ending)(w':World):Prop :=
 (∃l A cap,l.all R7=true/\bs=y9 l/\e=.returned (.tuple #[.slice A l.length cap,.bool true])/\Q3 w' w'.heap.size A (W6 l)/\l.length<=cap)∨(Lib.validD bs=false/\e=.returned (.tuple #[.slice none 0 0,.bool false]))
theorem b5l(A:Option Addr)(c:Nat)(bs:List UInt8)(w:World)(hT:a7k w)(hl:Q3 w w.heap.size A (P6 bs))(hc:bs.length<=c)(E6:c<=9223372036854775807)(hn:bs.length<=2000000) :
 Calls Tryz.prog 224 #[.slice A bs.length c] w fun e w'=>a8t bs e w'/\Below w.heap.size w w':=by
 have E1:=a8 (a6b A c bs w hT hl hc E6);clear hT;cases hv:Lib.validD bs with
 |false =>
  have D9:Hid (Lib.validD bs=false):=a8 hv;clear hl;go_enter Tryz.func224,Tryz.ntmps224
  go_wp2_with (go_at_call 73;refine E1.out.mono ?_;rintro e w' ⟨rfl,hb⟩;rw[D9.out])
  go_ret2
  exact⟨.inr ⟨D9.out,rfl⟩,hb⟩
 |true =>
  obtain⟨l,D2,E2⟩:=(a1L bs).1 hv;have D9:Hid (Lib.validD bs=true):=a8 hv;have E7:=a8 hl;have D3:=a8 D2;have E4:=a8 E2;have G5:l.length<=2000000:=by have:=a2o l;rw[<-E2]at this;omega
  clear hl hv D2 E2;go_enter Tryz.func224,Tryz.ntmps224
  go_wp2_with fail
  refine E1.out.mono ?_;rintro e w1⟨rfl,hb⟩;rw[D9.out];have G6:=I4 c (E7.out.below hb);obtain⟨C,hC⟩ : ∃C:Array Value,(W6 l).toArray=C:=⟨_,rfl⟩;have E3:Conv.runesFrom ⟨bs.toArray⟩ (⟨bs.toArray⟩ : ByteArray).size 0 #[]=C:=by rw[E4.out,b4n l D3.out,hC]
  have E0:C.size=l.length:=by rw[<-hC];simp[W6]
  have D0:=run_runes_of_string (P:=Tryz.prog) w1 9 122 21 ⟨bs.toArray⟩ Tryz.underlying9 Tryz.underlying122 Tryz.underlying21 (by rw[E3,E0];omega)
  rw[E3,E0]at D0;obtain⟨cap,D1⟩ : ∃cap,grownCap w1 l.length 0 21 = cap:=⟨_,rfl⟩;rw[D1]at D0;have E5:l.length<=cap:=by rw[<-D1];exact grownCap_ge _ _ _ _
  have E8:=a8 E5;obtain⟨O,hO⟩ : ∃O,Obj.cells (C++Array.replicate (cap-l.length) (.int .i32 0)) 21 = O:=⟨_,rfl⟩;rw[hO]at D0;have HO:=a8 hO;have G0:=a8 hC;have G1:=a8 E0;clear D1 hO hC E0 E3 E1 E5;go_wp2
  go_ret2
  have G4:Below w.heap.size w (w1.drew.alloc O):=hb.drew.alloc hb.size O;refine⟨.inl ⟨l,some ⟨w1.heap.size,0,none⟩,cap,D3.out,E4.out,rfl,?_,E8.out⟩,G4⟩;intro G7;refine⟨w1.heap.size,0,rfl,by simp,fun j hj => ?_⟩
  have hj':j<l.length:=by simpa [W6]using hj
  rw[<-HO.out,F5]
  show(w1.drew.alloc _).cell? ⟨w1.drew.heap.size,j,none⟩=_
  rw[World.cell?_alloc_mark,Array.getElem?_append_left (by rw[G1.out];exact hj'),<-G0.out]
  simp
end
section
open Go.RowKit
theorem a5D(r:Int)(w:World):Calls Tryz.prog 74 #[.int .i32 r] w fun e w'=>e=.returned (.bool (P9 r))/\w=w':=by
 go_enter Tryz.func74,Tryz.ntmps74;go_wp2
 all_goals
  go_ret;refine⟨N5 ?_,rfl⟩;simp only[x8,e9,ne_eq]at *;rw[A8];simp[P9]
  try omega
theorem a3G(r:Int)(w:World):Calls Tryz.prog 82 #[.int .i32 r] w fun e w'=>e=.returned (.bool (P9 r))/\w=w':=by
 go_enter Tryz.func82,Tryz.ntmps82
 go_wp2_with (go_at_call 127;refine(a16 _ _).mono ?_;rintro e w' ⟨rfl,rfl⟩)
 all_goals
  go_ret;refine⟨N5 ?_,rfl⟩;rw[A8];simp only[R7,t8]at *;simp[P9]
  try omega
end
section
open Go.RowKit
def a9N(bs:List UInt8)(e:Ending):Prop :=
 (∃l,l.all R7=true/\bs=y9 l/\e=.returned (.bool (l.all P9)))∨(Lib.validD bs=false/\e=.returned (.bool false))
def c1C(w:World)(s:ByteArray)(l:List Int)(v:Value)(wr:World):Prop :=
 ∃k:Nat,k<=l.length/\(l.take k).all P9=true/\wr=w.iter s (y9 (l.take k)).length
theorem b1A(p:Int->Bool)(l:List Int)(k:Nat)(h:k<l.length):(l.take (k+1)).all p=((l.take k).all p&&p l[k]):=by
 rw[l8 h,List.all_append];simp
theorem b63(l:List Int)(k:Nat)(h:k<l.length):y9 l=y9 (l.take k)++(C3 l[k]++y9 (l.drop (k+1))):=by
 conv=>lhs;rw[<-I5 k l,B8 h,K7,J4]
theorem a7c{w w1:World}(h:Below w.heap.size w w1)(s:ByteArray)(pos:Nat):Below w.heap.size w (w1.iter s pos):=h.alloc h.size _
theorem a6e(A:Option Addr)(c:Nat)(bs:List UInt8)(w:World)(hT:a7k w)(hl:Q3 w w.heap.size A (P6 bs))(hc:bs.length<=c)(G7:c<=9223372036854775807)(hn:bs.length<=2000000) :
 Calls Tryz.prog 41 #[.slice A bs.length c] w fun e w'=>a9N bs e/\Below w.heap.size w w':=by
 have E4:=a8 (a6b A c bs w hT hl hc G7);clear hT;cases hv:Lib.validD bs with
 |false =>
  have E2:Hid (Lib.validD bs=false):=a8 hv;clear hl;go_enter Tryz.func41,Tryz.ntmps41
  go_wp2_with (go_at_call 73;refine E4.out.mono ?_;rintro e w' ⟨rfl,hb⟩;rw[E2.out])
  go_ret;exact⟨.inr ⟨E2.out,rfl⟩,hb⟩
 |true =>
  obtain⟨l,D9,G0⟩:=(a1L bs).1 hv;have E2:Hid (Lib.validD bs=true):=a8 hv;have G1:=a8 hl;have D1:=a8 D9;have E5:=a8 G0;clear hl hv D9 G0;go_enter Tryz.func41,Tryz.ntmps41
  go_wp2_with fail
  refine E4.out.mono ?_;rintro e w1⟨rfl,hb⟩;rw[E2.out];have G8:=I4 c (G1.out.below hb);obtain⟨s,hs⟩ : ∃s:ByteArray,⟨bs.toArray⟩=s:=⟨_,rfl⟩;rw[hs]at G8;have G4:s.data.toList=y9 l:=by rw[<-hs,E5.out]
  have HS:=a8 G4;clear hs G4 E4 G1;go_wp2
  go_loopw [4] (c1C w1 s l) (fun _ w'=>s.size-w'.iterPos w1.heap.size)
  case atStart=>exact⟨0,o4 _,rfl,rfl⟩
  case round =>
   obtain⟨k,hk,hx,rfl⟩:=hrel;have HX:=a8 hx;clear hx;by_cases E0:k<l.length
   ·have D2:R7 l[k]=true:=o9.1 D1.out _ (o0 _)
    have hd:=a8i (l.take k) l[k] (l.drop (k+1)) D2 s (by rw[HS.out];exact b63 l k E0)
    have G5:=(S6.1 D2).1
    have hp:(y9 (l.take k)).length<s.size:=by
     rw[Lib.size_eq,HS.out,b63 l k E0,e8,e8];have:=P7 l[k];omega
    have e1:(y9 (l.take k)).length+(C3 l[k]).length=(y9 (l.take (k+1))).length:=by
     rw[l8 E0,K7,e8];simp[y9]
    have D3:=fun ty=>run_next_any (P:=Tryz.prog) w1 s (y9 (l.take k)).length ty hp;rw[hd]at D3;dsimp only at D3;have er:((l[k].toNat:Nat):Int)=l[k]:=Int.toNat_of_nonneg G5;rw[er,e1]at D3;have D0:(y9 (l.take k)).length<(y9 (l.take (k+1))).length:=by rw[<-e1];have:=P7 l[k];omega
    have E6:=b1A P9 l k E0;generalize (y9 (l.take k)).length=p0 at hp D3 D0 ⊢;obtain⟨p1,E7⟩ : ∃p1,(y9 (l.take (k+1))).length=p1:=⟨_,rfl⟩;rw[E7]at D3 D0;generalize l[k]=z at D3 E6 hd;have G6:=a8 E6;have G9:=a8 E7;clear D2 hd G5 er e1 E6 E7;cases E3:P9 z with
    |true =>
     go_wp2_with (go_at_call 74;refine(a5D _ _).mono ?_;rintro e w' ⟨rfl,rfl⟩;rw[E3])
     go_roundw
     case rel=>exact⟨k+1,E0,by rw[G6.out,HX.out,E3];rfl,by rw[G9.out]⟩
     case measure=>simp;omega
    |false =>
     go_wp2_with (go_at_call 74;refine(a5D _ _).mono ?_;rintro e w' ⟨rfl,rfl⟩;rw[E3])
     go_ret;refine⟨.inl ⟨l,D1.out,E5.out,?_⟩,a7c hb _ _⟩
     have:l.all P9=false:=by
      have h1:(l.take (k+1)).all P9=false:=by rw[G6.out,E3];simp
      rw[<-I5 (k+1) l,List.all_append,h1];rfl
     rw[this];rfl
   ·have E8:l.take k=l:=C0 (by omega)
    have hp:¬(y9 (l.take k)).length<s.size:=by rw[E8,Lib.size_eq,HS.out];omega
    have D3:=fun ty=>run_next_end (P:=Tryz.prog) w1 s (y9 (l.take k)).length ty hp;have E1:l.all P9=true:=by rw[<-E8];exact HX.out
    have HF:=a8 E1;clear E8 E1;go_wp2;go_ret;refine⟨.inl ⟨l,D1.out,E5.out,?_⟩,a7c hb _ _⟩;rw[HF.out];rfl
def c03(w:World)(l:List Int)(v i:Value)(wr:World):Prop :=
 ∃k:Nat,k<=l.length/\i=.int .i64 k/\v=.bool ((l.take k).all P9)/\Below w.heap.size w wr
theorem a2C(A:Option Addr)(c:Nat)(bs:List UInt8)(w:World)(hl:Q3 w w.heap.size A (P6 bs))(hc:bs.length<=c)(E4:c<=9223372036854775807)(hn:bs.length<=2000000) :
 Calls Tryz.prog 45 #[.slice A bs.length c] w fun e w'=>a9N bs e/\Below w.heap.size w w':=by
 have HC:=a8 (a8O A c bs w hl hc E4 hn);clear hl;go_enter Tryz.func45,Tryz.ntmps45
 go_wp2_with fail
 refine HC.out.mono ?_;rintro e w1⟨⟨l,v,D1,E1,rfl,D2⟩|⟨hv,rfl⟩,hb⟩
 ·have G1:l.length<=2000000:=by have:=a2o l;rw[<-E1]at this;omega
  have E2:=a8 D1;have E5:=a8 E1;obtain⟨A2,cap,rfl,G4,E6,E3,_⟩:=a6x D2;clear D1 E1 D2 HC;go_wp2
  go_loopw [4,13] (c03 w1 l) (fun _ i _=>l.length-(intOf i).toNat)
  case atStart=>exact⟨0,o4 _,rfl,rfl,b8 _ _⟩
  case round =>
   obtain⟨k,hk,rfl,rfl,D9⟩:=hrel;by_cases D3:k<l.length
   ·obtain⟨b,o,rfl,E7,D0⟩:=E3 (by intro h;simp[W6]at h;subst h;simp at D3)
    have E8:wr.cell? ⟨b,o+k,none⟩=some (.int .i32 l[k]):=by
     have:=(D9.cell (p:=⟨b,o+k,none⟩) E7).trans (D0 k (by simpa [W6]using D3))
     simpa [W6]using this
    have E0:=a8 (b1A P9 l k D3);clear D0 E3;generalize hz:l[k]=z at E8 E0;clear hz;generalize (l.take k).all P9=q at E0 ⊢;cases q with
    |true =>
     go_wp2_with (go_at_call 82;refine(a3G _ _).mono ?_;rintro e w' ⟨rfl,rfl⟩)
     all_goals
      go_roundw
      case rel=>exact⟨k+1,D3,by go_num,by rw[E0.out];simp,D9⟩
      case measure=>simp[intOf];omega
    |false =>
     go_wp2
     go_roundw
     case rel=>exact⟨k+1,D3,by go_num,by rw[E0.out];simp,D9⟩
     case measure=>simp[intOf];omega
   ·have G0:l.take k=l:=C0 (by omega)
    rw[G0];go_wp2;go_ret;exact⟨.inl ⟨l,E2.out,E5.out,rfl⟩,hb.trans (D9.mono hb.size)⟩
 ·have HV:=a8 hv
  clear hv;go_wp2;refine wp_loop_rounds 1 ?_;rw[rounds_succ];go_wp2;go_ret;exact⟨.inr ⟨HV.out,rfl⟩,hb⟩
end
def a1n(r:Int):Bool:=decide ((65<=r/\r<=90)∨(97<=r/\r<=122)∨r=95∨(192<=r/\r<=214)∨(216<=r/\r<=246)∨(248<=r/\r<=767)∨(880<=r/\r<=893)∨(895<=r/\r<=8191)∨(8204<=r/\r<=8205)∨(8304<=r/\r<=8591)∨(11264<=r/\r<=12271)∨(12289<=r/\r<=55295)∨(63744<=r/\r<=64975)∨(65008<=r/\r<=65533)∨(65536<=r/\r<=983039))
def Z9(r:Int):Bool:=a1n r||decide ((48<=r/\r<=57)∨r=45∨r=46∨r=183∨(768<=r/\r<=879)∨(8255<=r/\r<=8256))
theorem a6i{r:Int}(h:a1n r=true):Z9 r=true:=by simp[Z9,h]
theorem a8D{r:Int}:Z9 r=true↔a1n r=true∨(48<=r/\r<=57)∨r=45∨r=46∨r=183∨(768<=r/\r<=879)∨(8255<=r/\r<=8256):=by simp[Z9]
theorem b2Q{r:Int}(h:a1n r=true):R7 r=true:=by
 rw[S6];simp only[a1n,t8]at h;omega
theorem a8E{r:Int}(h:Z9 r=true):R7 r=true:=by
 rcases a8D.1 h with h|h
 ·exact b2Q h
 ·rw[S6];omega
theorem b9Q:Z9 58=false:=by decide
def nmL:List Int->Bool
 | []=>true
 |r::l=>a1n r&&l.all Z9
theorem a89:∀{l:List Int},nmL l=true->l.all R7=true
 | [],_=>rfl
 |r::l,h=>by
  simp only[nmL,i4]at h;rw[List.all_cons,i4];refine⟨b2Q h.1,?_⟩;rw[o9]at h ⊢;exact fun x hx=>a8E (h.2 x hx)
theorem a88:∀{l:List Int},nmL l=true->∀r∈l,Z9 r=true
 | [],_,r,hr=>by cases hr
 |s::l,h,r,hr=>by
  simp only[nmL,i4,o9]at h;rcases q8.1 hr with rfl|hr
  ·exact a6i h.1
  ·exact h.2 r hr
def a3M(l:List Int)(r:Int):Bool:=match l with | []=>a1n r|_::_=>Z9 r
theorem a6C:∀(l:List Int) (r:Int),nmL (l++[r])=(nmL l&&a3M l r)
 | [],r=>by simp[nmL,a3M]
 |s::l,r=>by simp[nmL,a3M,List.all_append,Bool.and_assoc]
theorem b6r:∀{l:List Int} (n:Nat),nmL l=true->nmL (l.take n)=true
 | [],n,_=>by simp[nmL]
 |r::l,0,_=>rfl
 |r::l,n+1,h=>by
  simp only[nmL,List.take_succ_cons,i4,o9]at h ⊢;exact⟨h.1,fun x hx=>h.2 x (List.mem_of_mem_take hx)⟩
theorem b8N{l:List Int}{r:Int}(h:a3M l r=true):R7 r=true:=by
 cases l with
 |nil=>exact b2Q h
 |cons _ _=>exact a8E h
def nm(s:List UInt8):Prop:=∃l:List Int,l≠[]/\nmL l=true/\s=y9 l
structure Run(s:List UInt8)(l:List Int)(rest:List UInt8):Prop where
 eq:s=y9 l++rest
 ok:nmL l=true
 stop:∀r x,R7 r=true->rest=C3 r++x->a3M l r=false
theorem Run.most:∀{a b:List Int} {x y:List UInt8} {c:List Int},nmL (c++a)=true->nmL (c++b)=true->y9 a++x=y9 b++y->(∀r z,R7 r=true->x=C3 r++z->a3M (c++a) r=false)->∃d,a=b++d
 |a,[],x,y,c,_,_,_,_=>⟨a,rfl⟩
 | [],r::b,x,y,c,ha,hb,h,hs=>by
  exfalso
  have hr:a3M c r=true:=by
   have e:c++r::b=(c++[r])++b:=by simp
   rw[e]at hb;have h2:=b6r (c++[r]).length hb;rw[List.take_left,a6C,i4]at h2;exact h2.2
  have:=hs r (y9 b++y) (b8N hr) (by simpa [J4,y9]using h)
  rw[A7,hr]at this;cases this
 |s::a,r::b,x,y,c,ha,hb,h,hs=>by
  have cs:R7 s=true:=o9.1 (a89 ha) s (by simp)
  have cr:R7 r=true:=o9.1 (a89 hb) r (by simp)
  rw[J4,J4,List.append_assoc,List.append_assoc]at h;obtain⟨rfl,h2⟩:=a64 cs cr h;have e1:c++s::a=(c++[s])++a:=by simp
  have e2:c++s::b=(c++[s])++b:=by simp
  obtain⟨d,rfl⟩:=Run.most (c:=c++[s]) (by rw[<-e1];exact ha) (by rw[<-e2];exact hb) h2 (by rw[<-e1];exact hs)
  exact⟨d,rfl⟩
theorem a44{l:List Int}(h:y9 l=[]):l=[]:=by
 cases l with
 |nil=>rfl
 |cons r l =>
  have h1:=congrArg List.length h;rw[J4,e8]at h1;have:=P7 r;simp at h1;rw[h1.1]at this;simp at this
theorem Run.is{s rest:List UInt8}{l:List Int}(h:Run s l rest):nm s↔(l≠[]/\rest=[]):=by
 constructor
 ·rintro⟨k,hk,hn,e⟩
  obtain⟨d,hd⟩:=Run.most (c:=[]) (a:=l) (b:=k) (x:=rest) (y:=[]) (by simpa using h.ok) (by simpa using hn) (by rw[<-h.eq,e,A7]) (by simpa using h.stop)
  subst hd;have e2:=h.eq;rw[e,K7,List.append_assoc]at e2
  have e3:y9 d++rest=[]:=by
   have:=congrArg List.length e2;rw[e8]at this;exact j8 (by omega)
  have D0:y9 d=[]:=(List.append_eq_nil_iff.1 e3).1;refine⟨fun h0=>hk (List.append_eq_nil_iff.1 h0).1,(List.append_eq_nil_iff.1 e3).2⟩
 ·rintro⟨h1,rfl⟩
  exact⟨l,h1,h.ok,by rw[h.eq,A7]⟩
theorem a63{r:Int}(h:R7 r=true){c:UInt8}(hc:c∈C3 r)(D0:c.toNat<128):C3 r=[c]/\r=(c.toNat:Int):=by
 rw[S6]at h;rcases(show r<=127∨(128<=r/\r<=2047)∨(2048<=r/\r<=65535)∨65536<=r from by omega)with e|e|e|e
 ·have he:C3 r=[r.toNat.toUInt8]:=by simp only[C3,N6];rw[g8 e];rfl
  rw[he]at hc ⊢;obtain rfl:=r8.1 hc;exact⟨rfl,by rw[G1 h.1 (by omega)];omega⟩
 ·have he:C3 r=[(192+r/64).toNat.toUInt8,(128+r%64).toNat.toUInt8]:=by simp only[C3,N6];rw[f6 (by omega),g8 (by omega)];rfl
  exfalso
  rw[he]at hc;simp only[q8,C5,or_false]at hc;rcases hc with rfl|rfl
  ·rw[G1 (by omega) (by omega)]at D0;omega
  ·rw[G1 (by omega) (by omega)]at D0;omega
 ·have he:C3 r=[(224+r/4096).toNat.toUInt8,(128+r/64%64).toNat.toUInt8,(128+r%64).toNat.toUInt8]:=by simp only[C3,N6];rw[f6 (by omega),f6 (by omega),g8 (by omega)];rfl
  exfalso
  rw[he]at hc;simp only[q8,C5,or_false]at hc;rcases hc with rfl|rfl|rfl
  ·rw[G1 (by omega) (by omega)]at D0;omega
  ·rw[G1 (by omega) (by omega)]at D0;omega
  ·rw[G1 (by omega) (by omega)]at D0;omega
 ·have he:C3 r=[(240+r/262144).toNat.toUInt8,(128+r/4096%64).toNat.toUInt8,(128+r/64%64).toNat.toUInt8,(128+r%64).toNat.toUInt8]:=by simp only[C3,N6];rw[f6 (by omega),f6 (by omega),f6 (by omega)];rfl
  exfalso
  rw[he]at hc;simp only[q8,C5,or_false]at hc;rcases hc with rfl|rfl|rfl|rfl
  ·rw[G1 (by omega) (by omega)]at D0;omega
  ·rw[G1 (by omega) (by omega)]at D0;omega
  ·rw[G1 (by omega) (by omega)]at D0;omega
  ·rw[G1 (by omega) (by omega)]at D0;omega
theorem b8Z{r:Int}(h:Z9 r=true):(58:UInt8)∉C3 r:=fun hc=>by
 obtain⟨_,e⟩:=a63 (a8E h) hc (by decide)
 have:r=58:=e;rw[this,b9Q]at h;cases h
theorem b1c{l:List Int}(h:∀r∈l,Z9 r=true):(58:UInt8)∉y9 l:=fun hc=>by
 simp only[y9,List.mem_flatMap]at hc;obtain⟨r,hr,hc⟩:=hc;exact b8Z (h r hr) hc
theorem b9p{s:List UInt8}(h:nm s):(58:UInt8)∉s:=by
 obtain⟨l,_,hn,rfl⟩:=h;exact b1c (a88 hn)
theorem b6q{s:List UInt8}(h:nm s):s≠[]:=by
 obtain⟨l,hl,_,rfl⟩:=h;exact fun e=>hl (a44 e)
def a3x(s p l:List UInt8):Prop:=(p=[]/\l=s/\nm s)∨(nm p/\nm l/\s=p++58::l)
theorem b1i:∀{a b x y:List UInt8},(58:UInt8)∉a->(58:UInt8)∉b->a++58::x=b++58::y->a=b/\x=y
 | [],[],x,y,_,_,h=>by simpa using h
 | [],c::b,x,y,_,hb,h=>by simp at h;exact absurd h.1 (fun e=>hb (by simp[<-e]))
 |c::a,[],x,y,ha,_,h=>by simp at h;exact absurd h.1 (fun e=>ha (by simp[e]))
 |c::a,d::b,x,y,ha,hb,h=>by
  simp only[i9,r7]at h;obtain⟨e1,e2⟩:=b1i (fun hc=>ha (by simp[hc])) (fun hc=>hb (by simp[hc])) h.2
  exact⟨by rw[h.1,e1],e2⟩
theorem a3N{s p l:List UInt8}(h:(58:UInt8)∉s):a3x s p l↔p=[]/\l=s/\nm s:=by
 constructor
 ·rintro(h' |⟨_,_,e⟩)
  ·exact h'
  ·exact absurd (show(58:UInt8)∈s by rw[e];simp) h
 ·exact .inl
theorem a2M{a b p l:List UInt8}(ha:(58:UInt8)∉a):a3x (a++58::b) p l↔p=a/\l=b/\nm a/\nm b:=by
 constructor
 ·rintro(⟨_,_,hn⟩|⟨h1,h2,e⟩)
  ·exact absurd (show(58:UInt8)∈a++58::b by simp) (b9p hn)
  ·obtain⟨rfl,rfl⟩:=b1i ha (b9p h1) e
   exact⟨rfl,rfl,h1,h2⟩
 ·rintro⟨rfl,rfl,h1,h2⟩
  exact .inr ⟨h1,h2,rfl⟩
theorem Run.full{s rest:List UInt8}{n:List Int}(h:Run s n rest)(p l:List UInt8):a3x s p l↔(n≠[]/\((rest=[]/\p=[]/\l=s)∨(∃b,rest=58::b/\nm b/\p=y9 n/\l=b))):=by
 have D1:=b1c (a88 h.ok)
 constructor
 ·rintro(⟨rfl,rfl,hn⟩|⟨h1,h2,e⟩)
  ·obtain⟨D0,hr⟩:=h.is.1 hn
   exact⟨D0,.inl ⟨hr,rfl,rfl⟩⟩
  ·obtain⟨k,hk,D2,rfl⟩:=h1
   obtain⟨d,rfl⟩:=Run.most (c:=[]) (a:=n) (b:=k) (x:=rest) (y:=58::l) (by simpa using h.ok) (by simpa using D2) (by rw[<-h.eq,e]) (by simpa using h.stop)
   have e2:=h.eq;rw[e,K7,List.append_assoc]at e2;have e3:58::l=y9 d++rest:=List.append_cancel_left e2;cases d with
   |nil =>
    rw[A7]at *;exact⟨hk,.inr ⟨l,by simpa [y9]using e3.symm,h2,rfl,rfl⟩⟩
   |cons r d =>
    exfalso
    have hp:=P7 r;rw[J4]at e3;cases hr:C3 r with
    |nil=>rw[hr]at hp;simp at hp
    |cons c t =>
     rw[hr]at e3;simp only[i9,r7]at e3;exact D1 (by rw[K7,J4,hr,<-e3.1];simp)
 ·rintro⟨D0,⟨rfl,rfl,rfl⟩|⟨b,rfl,hb,rfl,rfl⟩⟩
  ·exact .inl ⟨rfl,rfl,h.is.2 ⟨D0,rfl⟩⟩
  ·exact .inr ⟨⟨n,D0,h.ok,rfl⟩,hb,h.eq⟩
def X0(c:UInt8):Bool:=c==32||c==9||c==10||c==13
def Y7(s:List UInt8):List UInt8:=s.dropWhile X0
def a1O(s:List UInt8):List UInt8:=(Y7 (Y7 s).reverse).reverse
theorem a3E(s:List UInt8):∃a b,s=a++(a1O s++b)/\a.all X0=true/\b.all X0=true/\(∀c,(a1O s).head? = some c->X0 c=false)/\(∀c,(a1O s).getLast? = some c->X0 c=false):=by
 refine⟨s.takeWhile X0,((Y7 s).reverse.takeWhile X0).reverse,?_,List.all_takeWhile,by rw[List.all_reverse];exact List.all_takeWhile,?_,?_⟩
 ·have h1:(Y7 s).reverse=(Y7 s).reverse.takeWhile X0++Y7 (Y7 s).reverse:=List.takeWhile_append_dropWhile.symm
  have h2:Y7 s=a1O s++((Y7 s).reverse.takeWhile X0).reverse:=by
   have:=congrArg List.reverse h1;rw[List.reverse_reverse,List.reverse_append]at this;exact this
  rw[<-h2];exact List.takeWhile_append_dropWhile.symm
 ·intro c hc
  have h1:(Y7 s).reverse=(Y7 s).reverse.takeWhile X0++Y7 (Y7 s).reverse:=List.takeWhile_append_dropWhile.symm
  have h2:Y7 s=a1O s++((Y7 s).reverse.takeWhile X0).reverse:=by
   have:=congrArg List.reverse h1;rw[List.reverse_reverse,List.reverse_append]at this;exact this
  have h3:(Y7 s).head? = some c:=by rw[h2,List.head?_append,hc];rfl
  unfold Y7 at h3;have:=List.head?_dropWhile_not X0 s;rw[h3]at this;simpa using this
 ·intro c hc
  unfold a1O at hc;rw[List.getLast?_reverse]at hc;unfold Y7 at hc;have:=List.head?_dropWhile_not X0 (List.dropWhile X0 s).reverse;rw[hc]at this;simpa using this
theorem a5a{a:List UInt8}(ha:a.all X0=true)(x:List UInt8):(a++x).dropWhile X0=x.dropWhile X0:=by
 induction a with
 |nil=>rfl
 |cons c a ih =>
  rw[List.all_cons,i4]at ha;rw[i9,List.dropWhile_cons_of_pos ha.1];exact ih ha.2
theorem a68{x:List UInt8}(h:∀c,x.head? = some c->X0 c=false):x.dropWhile X0=x:=by
 cases x with
 |nil=>rfl
 |cons c x=>rw[List.dropWhile_cons_of_neg (by rw[h c rfl];simp)]
theorem a7B{s a t b:List UInt8}(e:s=a++(t++b))(ha:a.all X0=true)(hb:b.all X0=true)(h1:∀c,t.head? = some c->X0 c=false)(h2:∀c,t.getLast? = some c->X0 c=false):a1O s=t:=by
 subst e;unfold a1O Y7;rw[a5a ha];have D0:b.reverse.all X0=true:=by rw[List.all_reverse];exact hb
 cases t with
 |nil =>
  have D1:b.dropWhile X0=[]:=by have:=a5a hb [];simpa using this
  rw[l7,D1];rfl
 |cons c t =>
  have h3:((c::t)++b).dropWhile X0=(c::t)++b:=a68 (fun d hd=>h1 d (by simpa using hd))
  rw[h3,List.reverse_append,a5a D0,a68 (fun d hd=>h2 d (by rwa [List.head?_reverse]at hd)),List.reverse_reverse]
section
open Go.RowKit
def btw(r a b:Int):Bool:=decide (a<=r/\r<=b)
theorem a5v(r a b:Int)(w:World):Calls Tryz.prog 231 #[.int .i32 r,.int .i32 a,.int .i32 b] w fun e w'=>e=.returned (.bool (btw r a b))/\w'=w:=by
 by_cases h1:a<=r<;>by_cases h2:r<=b
 all_goals
  go_enter Tryz.func231,Tryz.ntmps231;go_wp2;go_ret;exact⟨N5 (by simp[btw];try omega),rfl⟩
def a7b(z:Int):Bool:=decide (z=32∨z=9∨z=10∨z=13)
theorem a0r(c:UInt8):a7b (c.toNat:Int)=X0 c:=by
 have h:∀n<256,a7b (((UInt8.ofNat n).toNat:Nat):Int)=X0 (UInt8.ofNat n):=by decide +kernel
 have:=h c.toNat c.toNat_lt
 rwa [UInt8.ofNat_toNat]at this
theorem a0E(z:Int)(w:World):Calls Tryz.prog 154 #[.int .u8 z] w fun e w'=>e=.returned (.bool (a7b z))/\w'=w:=by
 go_enter Tryz.func154,Tryz.ntmps154;go_wp2
 all_goals
  go_ret;refine⟨N5 ?_,rfl⟩;rw[A8];simp[a7b]
  try omega
theorem a01(z:Int)(w:World):Calls Tryz.prog 84 #[.int .u8 z] w fun e w'=>e=.returned (.bool (a7b z))/\w'=w:=by
 go_enter Tryz.func84,Tryz.ntmps84;go_wp2
 all_goals
  go_ret;refine⟨N5 ?_,rfl⟩;rw[A8];simp[a7b]
  try omega
theorem a3z(r:Int)(w:World):Calls Tryz.prog 211 #[.int .i32 r] w fun e w'=>e=.returned (.bool (a1n r))/\w'=w:=by
 go_enter Tryz.func211,Tryz.ntmps211
 go_wp2_with (go_at_call 231;refine(a5v _ _ _ _).mono ?_;rintro e w' ⟨rfl,rfl⟩)
 all_goals
  go_ret;refine⟨N5 ?_,rfl⟩
  try simp only[btw,t8]at *
  rw[A8];simp[a1n]
  try omega
theorem a7m(r:Int)(w:World):Calls Tryz.prog 212 #[.int .i32 r] w fun e w'=>e=.returned (.bool (Z9 r))/\w'=w:=by
 have H:=a8 (a3z r);obtain⟨B,hB⟩ : ∃B,a1n r=B:=⟨_,rfl⟩;rw[hB]at H;have HB:=a8 hB;clear hB;go_enter Tryz.func212,Tryz.ntmps212
 go_wp2_with (first|(go_at_call 231;refine(a5v _ _ _ _).mono ?_;rintro e w' ⟨rfl,rfl⟩)|(go_at_call 211;refine(H.out _).mono ?_;rintro e w' ⟨rfl,rfl⟩))
 all_goals
  go_ret;refine⟨N5 ?_,rfl⟩
  try simp only[btw,t8]at *
  rw[A8,a8D,HB.out];simp[*]
  try omega
end
end Go.Proofs.YtlgcigmolfhamaaGreatDoor
