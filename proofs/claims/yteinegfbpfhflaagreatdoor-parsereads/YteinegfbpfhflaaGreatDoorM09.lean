/-
  Whether a text is somewhere in another one, or at its end: strings.Contains and strings.HasSuffix. Conditions: internal/bytealg.MaxLen holds some number; the text is not too long.
  strings.EqualFold at a text and "xml". Conditions: unicode's own table of letters lies as it is laid; the text is not too long.
  Nodes, declarations and attributes as plain things, and how they lie in memory. Conditions: none.
  Texts that may stand in a document; comments, targets, prefixes, declarations and attributes by themselves. Conditions: the tables lie as they are laid, internal/bytealg.MaxLen holds some number; the texts are not too long.
-/
import Derived.Test.YteinegfbpfhflaaGreatDoorM08
import Derived.Shelf.Strings.Search2
import Derived.Shelf.Strings.Prefix
import Derived.Laws.RangeString
import Derived.Laws.RangeAny
import Derived.ScopeJumps
import Derived.WalkMore
import Derived.Lib.Fold
import Derived.Deep.LoopGhost
import Derived.Lib.Walk
import Derived.Test.YteinegfbpfhflaaGreatDoorM00
import Derived.Test.YteinegfbpfhflaaGreatDoorM07
namespace Go.Proofs.YteinegfbpfhflaaGreatDoor
set_option linter.unusedVariables false
set_option maxHeartbeats 8000000
set_option maxRecDepth 100000
section
open Go.RowKit Go.Shelf
def Jl:Ren:={
 f:=fun x=>match x with|219 => 204 | 217 => 212 | 225 => 208 | 224 => 207 | 267 => 213 | 266 => 216 | 314 => 217 | 100 => 180 | 207 => 201 | n=>n
 t:=fun x=>match x with|9 => 9 | 3 => 3 | 4 => 4 | 5 => 5 | 46 => 112 | 146 => 216 | 51 => 134 | n=>n
 g:=fun x=>match x with|1 => 2 | n=>n }
theorem I5:Lays.n219 Tryz.prog Jl:={ mixed:=rfl,f217:=Tryz.func212.trans (congrArg some rfl),f219:=Tryz.func204.trans (congrArg some rfl),f224:=Tryz.func207.trans (congrArg some rfl),f225:=Tryz.func208.trans (congrArg some rfl),f266:=Tryz.func216.trans (congrArg some rfl),f267:=Tryz.func213.trans (congrArg some rfl),f314:=Tryz.func217.trans (congrArg some rfl),t3:=Tryz.underlying3,a3:=Tryz.isAgg3,z3:=Tryz.sizeOf3,v3:=Tryz.zeroValue3,t4:=Tryz.underlying4,a4:=Tryz.isAgg4,z4:=Tryz.sizeOf4,v4:=Tryz.zeroValue4,t5:=Tryz.underlying5,a5:=Tryz.isAgg5,z5:=Tryz.sizeOf5,v5:=Tryz.zeroValue5,t9:=Tryz.underlying9,a9:=Tryz.isAgg9,z9:=Tryz.sizeOf9,v9:=Tryz.zeroValue9,t46:=Tryz.underlying112,a46:=Tryz.isAgg112,z46:=Tryz.sizeOf112,v46:=Tryz.zeroValue112,t51:=Tryz.underlying134,a51:=Tryz.isAgg134,z51:=Tryz.sizeOf134,v51:=Tryz.zeroValue134,t146:=Tryz.underlying216,a146:=Tryz.isAgg216,z146:=Tryz.sizeOf216,v146:=Tryz.zeroValue216,g1:=by kernel_rfl }
theorem Ib:Lays.n100 Tryz.prog Jl:={ mixed:=rfl,f100:=Tryz.func180.trans (congrArg some rfl),f207:=Tryz.func201.trans (congrArg some rfl),t3:=Tryz.underlying3,a3:=Tryz.isAgg3,z3:=Tryz.sizeOf3,v3:=Tryz.zeroValue3,t4:=Tryz.underlying4,a4:=Tryz.isAgg4,z4:=Tryz.sizeOf4,v4:=Tryz.zeroValue4,t9:=Tryz.underlying9,a9:=Tryz.isAgg9,z9:=Tryz.sizeOf9,v9:=Tryz.zeroValue9 }
def cD(w:World):Prop:=∃m,w.cell? ⟨2,0,none⟩=some (.int .i64 m)
theorem cD.below{w w':World}{B:Nat}(h:cD w)(hB : 2 < B)(hb:Below B w w'):cD w':=by
 obtain⟨m,hm⟩:=h;exact⟨m,(hb.cell (p:=⟨2,0,none⟩) hB).trans hm⟩
theorem cD.lt{w:World}(h:cD w) : 2 < w.heap.size:=by
 obtain⟨m,hm⟩:=h;unfold World.cell? at hm;rcases Nat.lt_or_ge 2 w.heap.size with h|h
 ·exact h
 ·rw[bL h]at hm;simp at hm
def Hq(s t:List UInt8):Prop:=∃a b,s=a++(t++b)
open Classical in
noncomputable def jg(s t:List UInt8):Bool:=decide (Hq s t)
theorem vv{s t:List UInt8}:jg s t=true↔Hq s t:=by simp[jg]
theorem C5{c:UInt8}{l t:List UInt8}:Hq (c::l) t↔t.isPrefixOf (c::l)=true∨Hq l t:=by
 constructor
 ·rintro⟨a,b,e⟩
  cases a with
  |nil =>
   rw[aE]at e;rw[e];left;simp
  |cons x a =>
   injection e with _ e
   exact .inr ⟨a,b,e⟩
 ·rintro(h |⟨a,b,e⟩)
  ·rw[bV]at h
   obtain⟨x,h⟩:=h;exact⟨[],x,h.symm⟩
  ·exact⟨c::a,b,by rw[e];rfl⟩
theorem rz:∀(s t:List UInt8),0<=Lib.index s t↔Hq s t
 | [],t=>by
  rw[Lib.index]
  constructor
  ·intro h
   cases t with
   |nil=>exact⟨[],[],rfl⟩
   |cons x t=>exact absurd h (by simp)
  ·rintro⟨a,b,e⟩
   have h:=congrArg List.length e;simp only[aj,bb]at h;have:t=[]:=aD (by omega)
   rw[this];simp
 |c::l,t=>by
  rw[C5,Lib.index];have ih:=rz l t;have hge:=Lib.index_ge l t
  split
  ·next h=>exact⟨fun _ => .inl h,fun _=>Int.le_refl _⟩
  ·next h =>
   split
   ·next h2 =>
    rw[bc]at h2
    constructor
    ·intro h3;omega
    ·rintro(h3|h3)
     ·exact absurd h3 h
     ·have:=ih.2 h3;omega
   ·next h2 =>
    rw[bc]at h2;exact⟨fun _ => .inr (ih.1 (by omega)),fun _=>by omega⟩
theorem xG(s t:List UInt8):decide (0<=Lib.index s t)=jg s t:=by
 unfold jg;exact decide_eq_decide.2 (rz s t)
theorem ly(S T:ByteArray)(w:World)(hm:cD w)(hs:S.size<=2000000):Calls Tryz.prog 204 #[.string S,.string T] w fun e w'=>e=.returned (.int .i64 (Lib.index S.data.toList T.data.toList))/\w'=w:=by
 obtain⟨m,hm⟩:=hm;exact Any.stringslite_Index I5 S T m w (by omega) hm
theorem xa(S T:ByteArray)(w:World)(hm:cD w)(hs:S.size<=2000000):Calls Tryz.prog 199 #[.string S,.string T] w fun e w'=>e=.returned (.int .i64 (Lib.index S.data.toList T.data.toList))/\w'=w:=by
 have HI:=aa (ly S T w hm hs);generalize Lib.index S.data.toList T.data.toList=z at *;clear hm;go_enter Tryz.func199,Tryz.ntmps199
 go_wp2_with fail
 refine HI.out.mono ?_;rintro e w'⟨rfl,hw⟩;rw[hw];go_wp2;go_ret;exact⟨rfl,rfl⟩
theorem mD(S T:ByteArray)(w:World)(hm:cD w)(hs:S.size<=2000000):Calls Tryz.prog 173 #[.string S,.string T] w fun e w'=>e=.returned (.bool (jg S.data.toList T.data.toList))/\w'=w:=by
 have HI:=aa (xa S T w hm hs);rw[<-xG];generalize Lib.index S.data.toList T.data.toList=z at *;clear hm;go_enter Tryz.func173,Tryz.ntmps173
 go_wp2_with fail
 refine HI.out.mono ?_;rintro e w'⟨rfl,hw⟩;rw[hw];go_wp2;go_ret;exact⟨rfl,rfl⟩
theorem wU(S T:ByteArray)(w:World)(hs:S.size<=2000000):Calls Tryz.prog 180 #[.string S,.string T] w fun e w'=>e=.returned (.bool (Lib.hasSuffix S.data.toList T.data.toList))/\w'=w :=
 Any.strings_HasSuffix Ib S T w (by omega)
end
section
open Go.RowKit
def mU(w:World):Prop:=∀p∈[((120:Nat),(88:Int)),(88,120),(109,77),(77,109),(108,76),(76,108),(85,117),(117,85),(84,116),(116,84),(70,102),(102,70),(45,45),(56,56)],w.cell? ⟨3,p.1,none⟩=some (.int .u16 p.2)
theorem dB(n:Nat)(z:Int)(hn:n<128)(h0:0<=z)(h1:z<65536)(w:World)(hc:w.cell? ⟨3,n,none⟩=some (.int .u16 z)) :
 Calls Tryz.prog 165 #[.int .i32 (n:Int)] w fun e w'=>e=.returned (.int .i32 z)/\w'=w:=by
 have hn1:¬(n:Int)<0:=by omega
 have hn2:¬(1114111:Int)<(n:Int):=by omega
 have hn3:(n:Int)<128:=by omega
 go_enter Tryz.func165,Tryz.ntmps165;go_wp2;go_ret;exact⟨rfl,rfl⟩
theorem rT(s:ByteArray)(h:128<=(s.get! 0).toNat):128<=(Utf8.decode s 0).1:=by
 have hb:∀k,(s.get! (0+k)).toNat<256:=fun k=>(s.get! (0+k)).toNat_lt;have h0:=hb 0;have h1:=hb 1;have h2:=hb 2;have h3:=hb 3
 simp only[Utf8.decode]
 repeat' split
 all_goals simp_all [Utf8.runeError]
 all_goals omega
theorem ew(T:ByteArray)(c:UInt8)(hc:c.toNat<128)(hT:T.toList≠[])(hx:∀w,(Instr.index 9 (.string T) (.int .i64 0)).run Tryz.prog w=.ok (.int .u8 (c.toNat:Int)) w)(w:World) :
 Calls Tryz.prog 164 #[.string T] w fun e w'=>e=.returned (.tuple #[.int .i32 (c.toNat:Int),.int .i64 1])/\w'=w:=by
 have h1:(c.toNat:Int)<128:=by omega
 have t1:(T.toList == [])=false:=by simpa using hT
 have t2:T.toList.isEmpty=false:=by simpa using hT
 go_enter Tryz.func164,Tryz.ntmps164;go_wp2
 go_ret2
 exact⟨rfl,rfl⟩
theorem ul(x:UInt8)(hx:128<=x.toNat)(y:UInt8):∃z:Int,bits .or .u8 (x.toNat:Int) (y.toNat:Int)=z/\128<=z:=by
 refine⟨_,u8_or_nat _ _ (by have:=x.toNat_lt;omega) (by have:=y.toNat_lt;omega),?_⟩
 have:x.toNat<=x.toNat ||| y.toNat:=Nat.left_le_or;omega
def FJ(S:ByteArray)(w:World)(a':Act)(w':World):Prop :=
 ∃(j:Nat) (x:UInt8) (u4 u6 u7 u8 u9 u10 u11 u12 u13 u14 u15 u16 u17 u18 u19 u20 u21 u22 u23 u24 u25 u26 u27 u28 u29 u30 u31 u32 u33 u34 u35 u36 u37 u38 u39 u40 u41 u42 u43 u44 u45 u46 u47 u48 u49 u50 u51 u52 u53 u54:Value),w'=w/\j<3/\S.data.toList[j]? = some x/\128<=x.toNat /\
  a'={ tmps:=#[.string S,.string ⟨#[120,109,108]⟩,undef,undef,u4,.int .i64 (j:Int),u6,u7,u8,u9,u10,u11,u12,u13,u14,u15,u16,u17,u18,u19,u20,u21,u22,u23,u24,u25,u26,u27,u28,u29,u30,u31,u32,u33,u34,u35,u36,u37,u38,u39,u40,u41,u42,u43,u44,u45,u46,u47,u48,u49,u50,u51,u52,u53,u54,undef,undef,undef,undef,undef,undef,undef,undef,undef,undef,undef,undef,undef,undef,undef,undef,undef,undef,undef,undef,undef,undef,undef,undef,undef,undef,undef,undef,undef,undef,undef,undef,undef,undef,undef,undef,undef,undef,undef,undef,undef,undef,undef,undef,undef,undef,undef,undef,undef,undef,undef,undef,undef,undef,undef,undef,undef,undef,undef,undef,undef,undef,undef,undef,undef,undef,undef,undef],defers:=[] }
theorem gJ{x y:UInt8}(hx:128<=x.toNat)(hy:y.toNat<128):Lib.foldEq x y=false:=by
 unfold Lib.foldEq;exact ap (by omega)
theorem vB{s:List UInt8}{j:Nat}{x:UInt8}(hj:j<3)(hx:s[j]? = some x)(h:128<=x.toNat):Lib.equalFold s [120,109,108]=false:=by
 match j,hj,s,hx with
 |0,_,a::s,hx =>
  simp only[cw,al]at hx;subst hx;exact Lib.equalFold_no _ _ _ _ (gJ h (by decide))
 |1,_,a::b::s,hx =>
  simp only[bH,cw,al]at hx;subst hx;rw[Lib.equalFold,Lib.equalFold_no _ _ _ _ (gJ h (by decide)),Bool.and_false]
 |2,_,a::b::c::s,hx =>
  simp only[bH,cw,al]at hx;subst hx;rw[Lib.equalFold,Lib.equalFold,Lib.equalFold_no _ _ _ _ (gJ h (by decide)),Bool.and_false,Bool.and_false]
theorem dV{w:World}{T:ByteArray}{q:Nat}{p:Nat×Int}(hF:mU w)(h:p∈[((120:Nat),(88:Int)),(88,120),(109,77),(77,109),(108,76),(76,108),(85,117),(117,85),(84,116),(116,84),(70,102),(102,70),(45,45),(56,56)]):(w.iter T q).cell? ⟨3,p.1,none⟩=some (.int .u16 p.2):=by
 have h1:=hF p h
 have hlt : 3 < w.heap.size:=by
  rcases Nat.lt_or_ge 3 w.heap.size with hlt|hge
  ·exact hlt
  ·rw[World.cell?,bL hge]at h1;cases h1
 exact(((ae w.heap.size w).alloc (af _) _).cell (p:=⟨3,p.1,none⟩) hlt).trans h1
theorem Gf{i:Nat}(h:i<3):∃y:UInt8,[(120:UInt8),109,108][i]? = some y/\y.toNat<128/\∀w,(Instr.index 9 (.string ⟨#[120,109,108]⟩) (.int .i64 (i:Int))).run Tryz.prog w=.ok (.int .u8 (y.toNat:Int)) w:=by
 match i,h with
 |0,_=>exact⟨120,rfl,by decide,fun w=>by kernel_rfl⟩
 |1,_=>exact⟨109,rfl,by decide,fun w=>by kernel_rfl⟩
 |2,_=>exact⟨108,rfl,by decide,fun w=>by kernel_rfl⟩
theorem Da(S:ByteArray)(hlen:S.size<=2000000)(w:World)(hF:mU w) :
 Calls Tryz.prog 125 #[.string S,.string ⟨#[120,109,108]⟩] w fun e w'=>e=.returned (.bool (Lib.equalFold S.data.toList [120,109,108]))/\Below w.heap.size w w':=by
 obtain⟨R,hR⟩ : ∃R,Lib.equalFold S.data.toList [120,109,108]=R:=⟨_,rfl⟩;rw[hR];have HR:=aa hR;clear hR;obtain⟨M,hM⟩ : ∃M:Nat,min (S.size:Int) 3=(M:Int):=⟨min S.size 3,by omega⟩
 have hMs:M<=S.size:=by omega
 have hMt:M<=3:=by omega
 have hMe:M=S.size∨M=3:=by omega
 go_enter Tryz.func125,Tryz.ntmps125;go_wp2;refine wp_scope_jumps 0 (FJ S w) (fun _ _=>0) rfl ?first ?pass
 case first =>
  go_wp2
  go_loopg [5] M (fun g s5 wx=>w=wx/\∃i:Nat,i+g=M/\s5=.int .i64 i/\Lib.equalFold (S.data.toList.drop i) ([120,109,108].drop i)=R)
  case atStart=>exact⟨rfl,0,by omega,rfl,HR.out⟩
  case round =>
   obtain⟨rfl,i,hig,rfl,hinv⟩:=hrel;have HI:=aa hinv;clear hinv hM;cases gk with
   |zero =>
    have hiM:¬((i:Int)<(M:Int)):=by omega
    obtain rfl:i=M:=by omega
    have hE:decide (S.size=3)=R:=by
     rw[<-HI.out,Lib.equalFold_end _ _ (by
      rcases hMe with h|h
      ·exact Or.inl (List.drop_eq_nil_of_le (by rw[<-aF];omega))
      ·exact Or.inr (List.drop_eq_nil_of_le (by show 3<=i;omega))),bq,bq,<-aF]
     exact decide_eq_decide.2 (by show S.size=3↔S.size-i=3-i;omega)
    have HE:=aa hE;clear hE;by_cases hst:S.size=3
    ·have hb:((S.size:Int)==3)=true:=bc.2 (by omega)
     go_wp2;simp only[Exit.jump];go_ret;exact⟨by rw[<-HE.out];simp[hst],ae _ _⟩
    ·have hb:((S.size:Int)==3)=false:=ak.2 (by omega)
     go_wp2;simp only[Exit.jump];go_ret;exact⟨by rw[<-HE.out];simp[hst],ae _ _⟩
   |succ g =>
    have hiM:(i:Int)<(M:Int):=by omega
    have hi3:i<3:=by omega
    obtain⟨y,hy,hy1,hiy⟩:=Gf hi3;have hil:i<S.data.toList.length:=by rw[<-aF];omega
    have hix:=cz S hil;obtain⟨x,hx⟩ : ∃x,S.data.toList[i]=x:=⟨_,rfl⟩;rw[hx]at hix;have hxl:S.data.toList[i]? = some x:=by rw[aw hil,hx]
    have Hx:Hid (S.data.toList[i]? = some x/\[(120:UInt8),109,108][i]? = some y):=⟨hxl,hy⟩;clear hxl hy hx hil;by_cases hbig:128<=x.toNat
    ·obtain⟨z,hz,hz1⟩:=ul x hbig y
     go_wp2
     go_step3
     exact⟨rfl,i,x,_,_,_,_,_,_,_,_,_,_,_,_,_,_,_,_,_,_,_,_,_,_,_,_,_,_,_,_,_,_,_,_,_,_,_,_,_,_,_,_,_,_,_,_,_,_,_,_,_,_,rfl,hi3,Hx.out.1,hbig,rfl⟩
    ·have hx128:x.toNat<128:=by omega
     have hor:bits .or .u8 (x.toNat:Int) (y.toNat:Int)=((x.toNat ||| y.toNat:Nat):Int):=u8_or_nat _ _ (by omega) (by omega)
     have hor128:¬((128:Int)<=((x.toNat ||| y.toNat:Nat):Int)):=by have:=Nat.or_lt_two_pow (n:=7) hx128 hy1;omega
     clear hbig;go_wp2
     all_goals (try simp only[bc,ak,ne_eq]at *)
     all_goals first
      |(go_roundg g
        case measure=>omega
        case rel=>exact⟨rfl,i+1,by omega,by first|rfl|simp,by rw[<-HI.out,Lib.drop_at Hx.out.1,Lib.drop_at Hx.out.2,Lib.equalFold_yes _ _ _ _ (ax (by omega))]⟩)
      |(simp only[Exit.jump]
        go_ret;refine⟨?_,ae _ _⟩;rw[<-HI.out,Lib.drop_at Hx.out.1,Lib.drop_at Hx.out.2,Lib.equalFold_no _ _ _ _ (ap (by omega))]
        rfl)
 case pass =>
  rintro a' w'⟨j,x,u4,u6,u7,u8,u9,u10,u11,u12,u13,u14,u15,u16,u17,u18,u19,u20,u21,u22,u23,u24,u25,u26,u27,u28,u29,u30,u31,u32,u33,u34,u35,u36,u37,u38,u39,u40,u41,u42,u43,u44,u45,u46,u47,u48,u49,u50,u51,u52,u53,u54,rfl,hj,hx,hx1,rfl⟩;have hjs:j<S.size:=by rw[aF];exact(bh.1 hx).1
  have hjz:(j:Int)<=(S.size:Int):=by omega
  obtain⟨T,hT⟩ : ∃T,S.extract j S.size=T:=⟨_,rfl⟩;have hTl:T.data.toList[0]? = some x:=by rw[<-hT,cS,aF,cL,List.getElem?_drop,Nat.add_zero];exact hx
  have hT0:=(bh.1 hTl).1;have hTs:0<T.size:=by rw[aF];exact hT0
  have hTg:T.get! 0=x:=by
   have h1:T.data[0]? = some x:=by rw[<-bi];exact hTl
   show T.data[0]! = x
   rw[getElem!_def,h1]
  have hd:=rT T (by rw[hTg];exact hx1)
  have hd2:=decode_le T 0;have hnx:=fun ty=>run_next_any (P:=Tryz.prog) w' T 0 ty hTs;generalize (Utf8.decode T 0).1=r at hd hd2 hnx;generalize 0+(Utf8.decode T 0).2=q at hnx;have hr1:(128:Int)<=(r:Int):=by omega
  clear hTl hT0 hTs hTg hd;have hF1:Hid (mU w'):=hF
  have hRf:false=R:=by
   rw[<-HR.out];exact(vB hj hx hx1).symm
  subst hRf;clear hF hM hx hx1 HR
  match j,hj with
  |0,_ =>
   have hX:(⟨#[120,109,108]⟩ : ByteArray).extract 0 3=⟨#[120,109,108]⟩:=cp (by rw[cS];rfl)
   have hX2:(⟨#[120,109,108]⟩ : ByteArray).extract 1 3=⟨#[109,108]⟩:=cp (by rw[cS];rfl)
   have HD:Hid (∀w,Calls Tryz.prog 164 #[.string ⟨#[120,109,108]⟩] w fun e w'=>e=.returned (.tuple #[.int .i32 120,.int .i64 1])/\w'=w):=ew ⟨#[120,109,108]⟩ 120 (by decide) (by rw[aq];simp) (fun w=>by kernel_rfl)
   have HS1:Hid (Calls Tryz.prog 165 #[.int .i32 120] (w'.iter T q) fun e w1=>e=.returned (.int .i32 88)/\w1=w'.iter T q):=dB 120 88 (by omega) (by omega) (by omega) _ (dV (p:=(120,88)) hF1.out (by simp))
   have HS2:Hid (Calls Tryz.prog 165 #[.int .i32 88] (w'.iter T q) fun e w1=>e=.returned (.int .i32 120)/\w1=w'.iter T q):=dB 88 120 (by omega) (by omega) (by omega) _ (dV (p:=(88,120)) hF1.out (by simp))
   have r1:((120:Int)==(r:Int))=false:=by rw[ak];omega
   have r2:(120:Int)<(r:Int):=by omega
   have r3:¬(r:Int)<128:=by omega
   have r4:(88:Int)<(r:Int):=by omega
   go_wp2;refine wp_loop_rounds 1 ?_;rw[rounds_succ]
   go_wp2_with fail
   refine(HD.out _).mono ?_;rintro e w1⟨rfl,hw1⟩;rw[hw1]
   go_wp2_with fail
   refine HS1.out.mono ?_;rintro e w2⟨rfl,hw2⟩;rw[hw2];go_wp2;refine wp_loop_rounds 2 ?_;rw[rounds_succ]
   go_wp2_with fail
   refine HS2.out.mono ?_;rintro e w3⟨rfl,hw3⟩;rw[hw3];go_wp2;rw[rounds_succ];go_wp2;simp only[Exit.jump];go_ret;exact⟨rfl,(ae w'.heap.size w').alloc (af _) _⟩
  |1,_ =>
   have hX:(⟨#[120,109,108]⟩ : ByteArray).extract 1 3=⟨#[109,108]⟩:=cp (by rw[cS];rfl)
   have hX2:(⟨#[109,108]⟩ : ByteArray).extract 1 2=⟨#[108]⟩:=cp (by rw[cS];rfl)
   have HD:Hid (∀w,Calls Tryz.prog 164 #[.string ⟨#[109,108]⟩] w fun e w'=>e=.returned (.tuple #[.int .i32 109,.int .i64 1])/\w'=w):=ew ⟨#[109,108]⟩ 109 (by decide) (by rw[aq];simp) (fun w=>by kernel_rfl)
   have HS1:Hid (Calls Tryz.prog 165 #[.int .i32 109] (w'.iter T q) fun e w1=>e=.returned (.int .i32 77)/\w1=w'.iter T q):=dB 109 77 (by omega) (by omega) (by omega) _ (dV (p:=(109,77)) hF1.out (by simp))
   have HS2:Hid (Calls Tryz.prog 165 #[.int .i32 77] (w'.iter T q) fun e w1=>e=.returned (.int .i32 109)/\w1=w'.iter T q):=dB 77 109 (by omega) (by omega) (by omega) _ (dV (p:=(77,109)) hF1.out (by simp))
   have r1:((109:Int)==(r:Int))=false:=by rw[ak];omega
   have r2:(109:Int)<(r:Int):=by omega
   have r3:¬(r:Int)<128:=by omega
   have r4:(77:Int)<(r:Int):=by omega
   go_wp2;refine wp_loop_rounds 1 ?_;rw[rounds_succ]
   go_wp2_with fail
   refine(HD.out _).mono ?_;rintro e w1⟨rfl,hw1⟩;rw[hw1]
   go_wp2_with fail
   refine HS1.out.mono ?_;rintro e w2⟨rfl,hw2⟩;rw[hw2];go_wp2;refine wp_loop_rounds 2 ?_;rw[rounds_succ]
   go_wp2_with fail
   refine HS2.out.mono ?_;rintro e w3⟨rfl,hw3⟩;rw[hw3];go_wp2;rw[rounds_succ];go_wp2;simp only[Exit.jump];go_ret;exact⟨rfl,(ae w'.heap.size w').alloc (af _) _⟩
  |2,_ =>
   have hX:(⟨#[120,109,108]⟩ : ByteArray).extract 2 3=⟨#[108]⟩:=cp (by rw[cS];rfl)
   have hX2:(⟨#[108]⟩ : ByteArray).extract 1 1=⟨#[]⟩:=cp (by rw[cS];rfl)
   have HD:Hid (∀w,Calls Tryz.prog 164 #[.string ⟨#[108]⟩] w fun e w'=>e=.returned (.tuple #[.int .i32 108,.int .i64 1])/\w'=w):=ew ⟨#[108]⟩ 108 (by decide) (by rw[aq];simp) (fun w=>by kernel_rfl)
   have HS1:Hid (Calls Tryz.prog 165 #[.int .i32 108] (w'.iter T q) fun e w1=>e=.returned (.int .i32 76)/\w1=w'.iter T q):=dB 108 76 (by omega) (by omega) (by omega) _ (dV (p:=(108,76)) hF1.out (by simp))
   have HS2:Hid (Calls Tryz.prog 165 #[.int .i32 76] (w'.iter T q) fun e w1=>e=.returned (.int .i32 108)/\w1=w'.iter T q):=dB 76 108 (by omega) (by omega) (by omega) _ (dV (p:=(76,108)) hF1.out (by simp))
   have r1:((108:Int)==(r:Int))=false:=by rw[ak];omega
   have r2:(108:Int)<(r:Int):=by omega
   have r3:¬(r:Int)<128:=by omega
   have r4:(76:Int)<(r:Int):=by omega
   go_wp2;refine wp_loop_rounds 1 ?_;rw[rounds_succ]
   go_wp2_with fail
   refine(HD.out _).mono ?_;rintro e w1⟨rfl,hw1⟩;rw[hw1]
   go_wp2_with fail
   refine HS1.out.mono ?_;rintro e w2⟨rfl,hw2⟩;rw[hw2];go_wp2;refine wp_loop_rounds 2 ?_;rw[rounds_succ]
   go_wp2_with fail
   refine HS2.out.mono ?_;rintro e w3⟨rfl,hw3⟩;rw[hw3];go_wp2;rw[rounds_succ];go_wp2;simp only[Exit.jump];go_ret;exact⟨rfl,(ae w'.heap.size w').alloc (af _) _⟩
end
section
open Go.RowKit
structure Dc where
 p:ByteArray
 u:ByteArray
structure At where
 p:ByteArray
 l:ByteArray
 u:ByteArray
 v:ByteArray
structure Nd where
 k:Int
 n:Int
 p:ByteArray
 l:ByteArray
 u:ByteArray
 t:ByteArray
 ds:List Dc
 ats:List At
def jP(d:Dc):List Value:=[.string d.p,.string d.u]
def jt(a:At):List Value:=[.string a.p,.string a.l,.string a.u,.string a.v]
def em(w:World)(B:Nat)(v:Value)(n:Nat)(xs:List Value):Prop :=
 ∃A cap,v=.slice A n cap/\n<=cap/\cap<=9223372036854775807/\en w B A xs
def gL(w:World)(B:Nat)(v:Value)(ds:List Dc):Prop:=em w B v ds.length (ds.flatMap jP)
def kE(w:World)(B:Nat)(v:Value)(as':List At):Prop:=em w B v as'.length (as'.flatMap jt)
def FW(x:Nd)(vd va:Value):List Value:=[.int .i64 x.k,.int .i64 x.n,.string x.p,.string x.l,.string x.u,.string x.t,vd,va]
def nH(w:World)(B:Nat)(v:Value)(x:Nd):Prop :=
 ∃vd va,v=.agg #[.int .i64 x.k,.int .i64 x.n,.string x.p,.string x.l,.string x.u,.string x.t,vd,va]/\gL w B vd x.ds/\kE w B va x.ats
def Hl(w:World)(B:Nat)(b o:Nat)(x:Nd):Prop :=
 ∃vd va,(∀j (hj:j<8),w.cell? ⟨b,o+j,none⟩=some ((FW x vd va)[j]'hj))/\gL w B vd x.ds/\kE w B va x.ats
def eD(w:World)(B:Nat)(v:Value)(l:List Nd):Prop :=
 ∃A cap,v=.slice A l.length cap/\l.length<=cap/\cap<=9223372036854775807/\(l≠[]->∃b o,A=some ⟨b,o,none⟩/\b<B/\∀i (hi:i<l.length),Hl w B b (o+i*8) l[i])
theorem em.below{w w':World}{B:Nat}{v:Value}{n:Nat}{xs:List Value}(h:em w B v n xs)(hb:Below B w w'):em w' B v n xs:=by
 obtain⟨A,cap,e,h1,h2,h3⟩:=h;exact⟨A,cap,e,h1,h2,h3.below hb⟩
theorem em.mono{w:World}{B B':Nat}{v:Value}{n:Nat}{xs:List Value}(h:em w B v n xs)(hb:B<=B'):em w B' v n xs:=by
 obtain⟨A,cap,e,h1,h2,h3⟩:=h;exact⟨A,cap,e,h1,h2,h3.mono hb⟩
theorem nH.below{w w':World}{B:Nat}{v:Value}{x:Nd}(h:nH w B v x)(hb:Below B w w'):nH w' B v x:=by
 obtain⟨vd,va,e,h1,h2⟩:=h;exact⟨vd,va,e,em.below h1 hb,em.below h2 hb⟩
theorem nH.mono{w:World}{B B':Nat}{v:Value}{x:Nd}(h:nH w B v x)(hb:B<=B'):nH w B' v x:=by
 obtain⟨vd,va,e,h1,h2⟩:=h;exact⟨vd,va,e,em.mono h1 hb,em.mono h2 hb⟩
theorem Hl.below{w w':World}{B b o:Nat}{x:Nd}(hbB:b<B)(h:Hl w B b o x)(hb:Below B w w'):Hl w' B b o x:=by
 obtain⟨vd,va,e,h1,h2⟩:=h;exact⟨vd,va,fun j hj=>(hb.cell (p:=⟨b,o+j,none⟩) hbB).trans (e j hj),em.below h1 hb,em.below h2 hb⟩
theorem eD.below{w w':World}{B:Nat}{v:Value}{l:List Nd}(h:eD w B v l)(hb:Below B w w'):eD w' B v l:=by
 obtain⟨A,cap,e,h1,h2,h3⟩:=h;refine⟨A,cap,e,h1,h2,fun hl => ?_⟩;obtain⟨b,o,e',hbB,hi⟩:=h3 hl;exact⟨b,o,e',hbB,fun i h=>(hi i h).below hbB hb⟩
theorem eD.mono{w:World}{B B':Nat}{v:Value}{l:List Nd}(h:eD w B v l)(hb:B<=B'):eD w B' v l:=by
 obtain⟨A,cap,e,h1,h2,h3⟩:=h;refine⟨A,cap,e,h1,h2,fun hl => ?_⟩;obtain⟨b,o,e',hbB,hi⟩:=h3 hl;refine⟨b,o,e',by omega,fun i h => ?_⟩
 obtain⟨vd,va,c,h1,h2⟩:=hi i h;exact⟨vd,va,c,em.mono h1 hb,em.mono h2 hb⟩
theorem em.later{w w':World}{v:Value}{n:Nat}{xs:List Value}(h:em w w.heap.size v n xs)(hb:Below w.heap.size w w'):em w' w'.heap.size v n xs:=(h.below hb).mono hb.size
theorem nH.later{w w':World}{v:Value}{x:Nd}(h:nH w w.heap.size v x)(hb:Below w.heap.size w w'):nH w' w'.heap.size v x:=(h.below hb).mono hb.size
theorem eD.later{w w':World}{v:Value}{l:List Nd}(h:eD w w.heap.size v l)(hb:Below w.heap.size w w'):eD w' w'.heap.size v l:=(h.below hb).mono hb.size
theorem Hl.cells{w:World}{B b o:Nat}{x:Nd}(h:Hl w B b o x):∃vd va,w.cell? ⟨b,o,none⟩=some (.int .i64 x.k)/\w.cell? ⟨b,o+1,none⟩=some (.int .i64 x.n)/\w.cell? ⟨b,o+2,none⟩=some (.string x.p) /\
 w.cell? ⟨b,o+3,none⟩=some (.string x.l)/\w.cell? ⟨b,o+4,none⟩=some (.string x.u)/\w.cell? ⟨b,o+5,none⟩=some (.string x.t)/\w.cell? ⟨b,o+6,none⟩=some vd/\w.cell? ⟨b,o+7,none⟩=some va/\gL w B vd x.ds/\kE w B va x.ats:=by
 obtain⟨vd,va,c,h1,h2⟩:=h;exact⟨vd,va,c 0 (by omega),c 1 (by omega),c 2 (by omega),c 3 (by omega),c 4 (by omega),c 5 (by omega),c 6 (by omega),c 7 (by omega),h1,h2⟩
theorem eD.open{w:World}{B:Nat}{v:Value}{l:List Nd}(h:eD w B v l)(hl:l≠[]):∃b o cap,v=.slice (some ⟨b,o,none⟩) l.length cap/\l.length<=cap/\cap<=9223372036854775807/\b<B/\∀i (hi:i<l.length),Hl w B b (o+i*8) l[i]:=by
 obtain⟨A,cap,e,h1,h2,h3⟩:=h;obtain⟨b,o,rfl,hbB,hi⟩:=h3 hl;exact⟨b,o,cap,e,h1,h2,hbB,hi⟩
theorem eD.slice{w:World}{B:Nat}{v:Value}{l:List Nd}(h:eD w B v l):∃A cap,v=.slice A l.length cap/\l.length<=cap/\cap<=9223372036854775807:=by
 obtain⟨A,cap,e,h1,h2,_⟩:=h;exact⟨A,cap,e,h1,h2⟩
end
section
open Go.RowKit
structure Wd(w:World):Prop where
 tabs:kz w
 max:cD w
 fold:mU w
theorem mU.lt{w:World}(h:mU w) : 3 < w.heap.size:=by
 have h1:=h (120,88) (by simp)
 rcases Nat.lt_or_ge 3 w.heap.size with hlt|hge
 ·exact hlt
 ·rw[World.cell?,bL hge]at h1;cases h1
theorem Wd.later{w w':World}(h:Wd w)(hb:Below w.heap.size w w'):Wd w' :=
 ⟨h.tabs.below h.tabs.five hb,h.max.below h.max.lt hb,fun p hp=>(hb.cell (p:=⟨3,p.1,none⟩) h.fold.lt).trans (h.fold p hp)⟩
def mZ(s:List UInt8):Prop:=∃l:List Int,l.all eA=true/\l.all ep=true/\s=bg l
theorem B5{l:List Int}(hl:l.all eA=true):mZ (bg l)↔l.all ep=true:=by
 constructor
 ·rintro⟨k,h1,h2,e⟩
  rwa [nv hl h1 e]
 ·intro h
  exact⟨l,hl,h,rfl⟩
theorem El{s:List UInt8}(h:Lib.validD s=false):¬mZ s:=by
 rintro⟨l,h1,_,e⟩;have:=(iX s).2 ⟨l,h1,e⟩;rw[h]at this;cases this
open Classical in
noncomputable def iZ(s:List UInt8):Bool:=decide (mZ s)
theorem eS{s:List UInt8}:iZ s=true↔mZ s:=by simp[iZ]
theorem i4{s:List UInt8}{e:Ending}(h:t8 s e):e=.returned (.bool (iZ s)):=by
 rcases h with⟨l,h1,rfl,rfl⟩|⟨h1,rfl⟩
 ·congr 2
  rw[bm,eS,B5 h1]
 ·congr 2
  cases ht:iZ s with
  |false=>rfl
  |true=>exact absurd (eS.1 ht) (El h1)
noncomputable def tx(S:ByteArray):Bool:=iZ S.data.toList
noncomputable def ic(S:ByteArray):Bool:=xu S.data.toList
def dZ(S:ByteArray)(l:List UInt8):Bool:=S.toList==l
theorem gi{S:ByteArray}{l:List UInt8}:dZ S l=true↔S.data.toList=l:=by simp[dZ,aq]
theorem jk{S:ByteArray}{b:Bool}(h:dZ S []=b):(S.toList == [])=b/\S.toList.isEmpty=b:=⟨h,by rw[<-h];unfold dZ;cases S.toList<;>rfl⟩
theorem ir(S:ByteArray)(hlen:S.size<=2000000)(w:World)(hW:Wd w):Calls Tryz.prog 141 #[.string S] w fun e w'=>e=.returned (.bool (tx S))/\Below w.heap.size w w':=by
 obtain⟨c,W,hcv,hcell,hsz,hbW,hc1,hc2⟩:=kY S (by omega) w
 have HTX:Hid (Calls Tryz.prog 27 #[.slice (some ⟨w.heap.size,0,none⟩) S.size c] W fun e w'=>e=.returned (.bool (tx S))/\Below W.heap.size W w'):=by
  have h:=pb (some ⟨w.heap.size,0,none⟩) c S.data.toList W (hW.later hbW).tabs.u (fI hsz hcell) (by rw[<-aF];exact hc1) hc2 (by rw[<-aF];omega)
  rw[<-aF]at h;exact h.mono fun e w' ⟨h1,h2⟩=>⟨i4 h1,h2⟩
 clear hcell hsz hc1 hc2 hW;generalize tx S=B at *;go_enter Tryz.func141,Tryz.ntmps141
 go_wp2_with fail
 refine HTX.out.mono ?_;rintro e w1⟨rfl,hb1⟩;go_wp2;go_ret;exact⟨rfl,hbW.trans (hb1.mono hbW.size)⟩
theorem jC(S:ByteArray)(hlen:S.size<=2000000)(w:World):Calls Tryz.prog 154 #[.string S] w fun e w'=>e=.returned (.bool (tx S))/\Below w.heap.size w w':=by
 obtain⟨c,W,hcv,hcell,hsz,hbW,hc1,hc2⟩:=kY S (by omega) w
 have HTX:Hid (Calls Tryz.prog 31 #[.slice (some ⟨w.heap.size,0,none⟩) S.size c] W fun e w'=>e=.returned (.bool (tx S))/\Below W.heap.size W w'):=by
  have h:=jX (some ⟨w.heap.size,0,none⟩) c S.data.toList W (fI hsz hcell) (by rw[<-aF];exact hc1) hc2 (by rw[<-aF];omega)
  rw[<-aF]at h;exact h.mono fun e w' ⟨h1,h2⟩=>⟨i4 h1,h2⟩
 clear hcell hsz hc1 hc2;generalize tx S=B at *;go_enter Tryz.func154,Tryz.ntmps154
 go_wp2_with fail
 refine HTX.out.mono ?_;rintro e w1⟨rfl,hb1⟩;go_wp2;go_ret;exact⟨rfl,hbW.trans (hb1.mono hbW.size)⟩
noncomputable def fX(S:ByteArray):Bool:=dZ S []||ic S
theorem lv(S:ByteArray)(hlen:S.size<=2000000)(w:World)(hW:Wd w):Calls Tryz.prog 175 #[.string S] w fun e w'=>e=.returned (.bool (fX S))/\Below w.heap.size w w':=by
 have HN:Hid (Calls Tryz.prog 170 #[.string S] w fun e w'=>e=.returned (.bool (ic S))/\Below w.heap.size w w'):=lz S hlen w hW.tabs;clear hW;unfold fX;cases h0:dZ S []with
 |true =>
  obtain⟨t1,t2⟩:=jk h0;go_enter Tryz.func175,Tryz.ntmps175;go_wp2;go_ret;exact⟨rfl,ae _ _⟩
 |false =>
  obtain⟨t1,t2⟩:=jk h0;generalize ic S=B at *;go_enter Tryz.func175,Tryz.ntmps175
  go_wp2_with fail
  refine HN.out.mono ?_;rintro e w1⟨rfl,hb1⟩;go_wp2;go_ret;exact⟨by simp,hb1⟩
end
end Go.Proofs.YteinegfbpfhflaaGreatDoor
