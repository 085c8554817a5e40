/-
  Whether a text is somewhere in another one, or at its end: strings.Contains and strings.HasSuffix. Conditions: internal/bytealg.MaxLen holds some number; the text is not too long.
  strings.EqualFold at a text and "xml". Conditions: unicode's own table of letters lies as it is laid; the text is not too long.
  Nodes, declarations and attributes as plain things, and how they lie in memory. Conditions: none.
  Texts that may stand in a document; comments, targets, prefixes, declarations and attributes by themselves. Conditions: the tables lie as they are laid, internal/bytealg.MaxLen holds some number; the texts are not too long.
-/
import Derived.Test.YtlgcigmolfhamaaGreatDoorK08
import Derived.Shelf.Strings.Search2
import Derived.Shelf.Strings.Prefix
import Derived.Laws.RangeString
import Derived.Laws.RangeAny
import Derived.ScopeJumps
import Derived.WalkMore
import Derived.Lib.Fold
import Derived.Deep.LoopGhost
import Derived.Lib.Walk
import Derived.Test.YtlgcigmolfhamaaGreatDoorK00
import Derived.Test.YtlgcigmolfhamaaGreatDoorK07
namespace Go.Proofs.YtlgcigmolfhamaaGreatDoor
set_option linter.unusedVariables false
set_option maxHeartbeats 8000000
set_option maxRecDepth 100000
section
open Go.RowKit Go.Shelf
def ren:Ren:={
 f:=fun x=>match x with|219 => 233 | 217 => 241 | 225 => 237 | 224 => 236 | 267 => 242 | 266 => 245 | 314 => 246 | 100 => 209 | 207 => 230 | n=>n
 t:=fun x=>match x with|9 => 9 | 3 => 3 | 4 => 4 | 5 => 5 | 46 => 137 | 146 => 251 | 51 => 168 | n=>n
 g:=fun x=>match x with|1 => 2 | n=>n }
theorem c1u:Lays.n219 Tryz.prog ren:={ mixed:=rfl,f217:=Tryz.func241.trans (congrArg some rfl),f219:=Tryz.func233.trans (congrArg some rfl),f224:=Tryz.func236.trans (congrArg some rfl),f225:=Tryz.func237.trans (congrArg some rfl),f266:=Tryz.func245.trans (congrArg some rfl),f267:=Tryz.func242.trans (congrArg some rfl),f314:=Tryz.func246.trans (congrArg some rfl),t3:=Tryz.underlying3,a3:=Tryz.isAgg3,z3:=Tryz.sizeOf3,v3:=Tryz.zeroValue3,t4:=Tryz.underlying4,a4:=Tryz.isAgg4,z4:=Tryz.sizeOf4,v4:=Tryz.zeroValue4,t5:=Tryz.underlying5,a5:=Tryz.isAgg5,z5:=Tryz.sizeOf5,v5:=Tryz.zeroValue5,t9:=Tryz.underlying9,a9:=Tryz.isAgg9,z9:=Tryz.sizeOf9,v9:=Tryz.zeroValue9,t46:=Tryz.underlying137,a46:=Tryz.isAgg137,z46:=Tryz.sizeOf137,v46:=Tryz.zeroValue137,t51:=Tryz.underlying168,a51:=Tryz.isAgg168,z51:=Tryz.sizeOf168,v51:=Tryz.zeroValue168,t146:=Tryz.underlying251,a146:=Tryz.isAgg251,z146:=Tryz.sizeOf251,v146:=Tryz.zeroValue251,g1:=by kernel_rfl }
theorem c0Y:Lays.n100 Tryz.prog ren:={ mixed:=rfl,f100:=Tryz.func209.trans (congrArg some rfl),f207:=Tryz.func230.trans (congrArg some rfl),t3:=Tryz.underlying3,a3:=Tryz.isAgg3,z3:=Tryz.sizeOf3,v3:=Tryz.zeroValue3,t4:=Tryz.underlying4,a4:=Tryz.isAgg4,z4:=Tryz.sizeOf4,v4:=Tryz.zeroValue4,t9:=Tryz.underlying9,a9:=Tryz.isAgg9,z9:=Tryz.sizeOf9,v9:=Tryz.zeroValue9 }
def I3(w:World):Prop:=∃m,w.cell? ⟨2,0,none⟩=some (.int .i64 m)
theorem I3.below{w w':World}{B:Nat}(h:I3 w)(hB : 2 < B)(hb:Below B w w'):I3 w':=by
 obtain⟨m,hm⟩:=h;exact⟨m,(hb.cell (p:=⟨2,0,none⟩) hB).trans hm⟩
theorem I3.lt{w:World}(h:I3 w) : 2 < w.heap.size:=by
 obtain⟨m,hm⟩:=h;unfold World.cell? at hm;rcases Nat.lt_or_ge 2 w.heap.size with h|h
 ·exact h
 ·rw[D4 h]at hm;simp at hm
def Ins(s t:List UInt8):Prop:=∃a b,s=a++(t++b)
open Classical in
noncomputable def a0V(s t:List UInt8):Bool:=decide (Ins s t)
theorem a6R{s t:List UInt8}:a0V s t=true↔Ins s t:=by simp[a0V]
theorem b0R{c:UInt8}{l t:List UInt8}:Ins (c::l) t↔t.isPrefixOf (c::l)=true∨Ins l t:=by
 constructor
 ·rintro⟨a,b,e⟩
  cases a with
  |nil =>
   rw[l7]at e;rw[e];left;simp
  |cons x a =>
   injection e with _ e
   exact .inr ⟨a,b,e⟩
 ·rintro(h |⟨a,b,e⟩)
  ·rw[F0]at h
   obtain⟨x,h⟩:=h;exact⟨[],x,h.symm⟩
  ·exact⟨c::a,b,by rw[e];rfl⟩
theorem a71:∀(s t:List UInt8),0<=Lib.index s t↔Ins s t
 | [],t=>by
  rw[Lib.index]
  constructor
  ·intro h
   cases t with
   |nil=>exact⟨[],[],rfl⟩
   |cons x t=>exact absurd h (by simp)
  ·rintro⟨a,b,e⟩
   have h:=congrArg List.length e;simp only[e8,t7]at h;have:t=[]:=j8 (by omega)
   rw[this];simp
 |c::l,t=>by
  rw[b0R,Lib.index];have ih:=a71 l t;have D0:=Lib.index_ge l t
  split
  ·next h=>exact⟨fun _ => .inl h,fun _=>Int.le_refl _⟩
  ·next h =>
   split
   ·next h2 =>
    rw[x8]at h2
    constructor
    ·intro h3;omega
    ·rintro(h3|h3)
     ·exact absurd h3 h
     ·have:=ih.2 h3;omega
   ·next h2 =>
    rw[x8]at h2;exact⟨fun _ => .inr (ih.1 (by omega)),fun _=>by omega⟩
theorem b2t(s t:List UInt8):decide (0<=Lib.index s t)=a0V s t:=by
 unfold a0V;exact decide_eq_decide.2 (a71 s t)
theorem a3J(S T:ByteArray)(w:World)(hm:I3 w)(hs:S.size<=2000000):Calls Tryz.prog 233 #[.string S,.string T] w fun e w'=>e=.returned (.int .i64 (Lib.index S.data.toList T.data.toList))/\w'=w:=by
 obtain⟨m,hm⟩:=hm;exact Any.stringslite_Index c1u S T m w (by omega) hm
theorem b1Y(S T:ByteArray)(w:World)(hm:I3 w)(hs:S.size<=2000000):Calls Tryz.prog 228 #[.string S,.string T] w fun e w'=>e=.returned (.int .i64 (Lib.index S.data.toList T.data.toList))/\w'=w:=by
 have HI:=a8 (a3J S T w hm hs);generalize Lib.index S.data.toList T.data.toList=z at *;clear hm;go_enter Tryz.func228,Tryz.ntmps228
 go_wp2_with fail
 refine HI.out.mono ?_;rintro e w'⟨rfl,hw⟩;rw[hw];go_wp2;go_ret;exact⟨rfl,rfl⟩
theorem a4x(S T:ByteArray)(w:World)(hm:I3 w)(hs:S.size<=2000000):Calls Tryz.prog 202 #[.string S,.string T] w fun e w'=>e=.returned (.bool (a0V S.data.toList T.data.toList))/\w'=w:=by
 have HI:=a8 (b1Y S T w hm hs);rw[<-b2t];generalize Lib.index S.data.toList T.data.toList=z at *;clear hm;go_enter Tryz.func202,Tryz.ntmps202
 go_wp2_with fail
 refine HI.out.mono ?_;rintro e w'⟨rfl,hw⟩;rw[hw];go_wp2;go_ret;exact⟨rfl,rfl⟩
theorem b1S(S T:ByteArray)(w:World)(hs:S.size<=2000000):Calls Tryz.prog 209 #[.string S,.string T] w fun e w'=>e=.returned (.bool (Lib.hasSuffix S.data.toList T.data.toList))/\w'=w :=
 Any.strings_HasSuffix c0Y S T w (by omega)
end
section
open Go.RowKit
def a4J(w:World):Prop:=∀p∈[((120:Nat),(88:Int)),(88,120),(109,77),(77,109),(108,76),(76,108),(85,117),(117,85),(84,116),(116,84),(70,102),(102,70),(45,45),(56,56)],w.cell? ⟨3,p.1,none⟩=some (.int .u16 p.2)
theorem M5(n:Nat)(z:Int)(hn:n<128)(h0:0<=z)(h1:z<65536)(w:World)(hc:w.cell? ⟨3,n,none⟩=some (.int .u16 z)) :
 Calls Tryz.prog 194 #[.int .i32 (n:Int)] w fun e w'=>e=.returned (.int .i32 z)/\w'=w:=by
 have D0:¬(n:Int)<0:=by omega
 have D1:¬(1114111:Int)<(n:Int):=by omega
 have D2:(n:Int)<128:=by omega
 go_enter Tryz.func194,Tryz.ntmps194;go_wp2;go_ret;exact⟨rfl,rfl⟩
theorem a8j(s:ByteArray)(h:128<=(s.get! 0).toNat):128<=(Utf8.decode s 0).1:=by
 have hb:∀k,(s.get! (0+k)).toNat<256:=fun k=>(s.get! (0+k)).toNat_lt;have h0:=hb 0;have h1:=hb 1;have h2:=hb 2;have h3:=hb 3
 simp only[Utf8.decode]
 repeat' split
 all_goals simp_all [Utf8.runeError]
 all_goals omega
theorem R5(T:ByteArray)(c:UInt8)(hc:c.toNat<128)(hT:T.toList≠[])(hx:∀w,(Instr.index 9 (.string T) (.int .i64 0)).run Tryz.prog w=.ok (.int .u8 (c.toNat:Int)) w)(w:World) :
 Calls Tryz.prog 193 #[.string T] w fun e w'=>e=.returned (.tuple #[.int .i32 (c.toNat:Int),.int .i64 1])/\w'=w:=by
 have h1:(c.toNat:Int)<128:=by omega
 have t1:(T.toList == [])=false:=by simpa using hT
 have t2:T.toList.isEmpty=false:=by simpa using hT
 go_enter Tryz.func193,Tryz.ntmps193;go_wp2
 go_ret2
 exact⟨rfl,rfl⟩
theorem a9Z(x:UInt8)(hx:128<=x.toNat)(y:UInt8):∃z:Int,bits .or .u8 (x.toNat:Int) (y.toNat:Int)=z/\128<=z:=by
 refine⟨_,u8_or_nat _ _ (by have:=x.toNat_lt;omega) (by have:=y.toNat_lt;omega),?_⟩
 have:x.toNat<=x.toNat ||| y.toNat:=Nat.left_le_or;omega
def FJ(S:ByteArray)(w:World)(a':Act)(w':World):Prop :=
 ∃(j:Nat) (x:UInt8) (u4 u6 u7 u8 u9 u10 u11 u12 u13 u14 u15 u16 u17 u18 u19 u20 u21 u22 u23 u24 u25 u26 u27 u28 u29 u30 u31 u32 u33 u34 u35 u36 u37 u38 u39 u40 u41 u42 u43 u44 u45 u46 u47 u48 u49 u50 u51 u52 u53 u54:Value),w'=w/\j<3/\S.data.toList[j]? = some x/\128<=x.toNat /\
  a'={ tmps:=#[.string S,.string ⟨#[120,109,108]⟩,undef,undef,u4,.int .i64 (j:Int),u6,u7,u8,u9,u10,u11,u12,u13,u14,u15,u16,u17,u18,u19,u20,u21,u22,u23,u24,u25,u26,u27,u28,u29,u30,u31,u32,u33,u34,u35,u36,u37,u38,u39,u40,u41,u42,u43,u44,u45,u46,u47,u48,u49,u50,u51,u52,u53,u54,undef,undef,undef,undef,undef,undef,undef,undef,undef,undef,undef,undef,undef,undef,undef,undef,undef,undef,undef,undef,undef,undef,undef,undef,undef,undef,undef,undef,undef,undef,undef,undef,undef,undef,undef,undef,undef,undef,undef,undef,undef,undef,undef,undef,undef,undef,undef,undef,undef,undef,undef,undef,undef,undef,undef,undef,undef,undef,undef,undef,undef,undef,undef,undef,undef,undef,undef,undef],defers:=[] }
theorem a0L{x y:UInt8}(hx:128<=x.toNat)(hy:y.toNat<128):Lib.foldEq x y=false:=by
 unfold Lib.foldEq;exact f8 (by omega)
theorem b0Z{s:List UInt8}{j:Nat}{x:UInt8}(hj:j<3)(hx:s[j]? = some x)(h:128<=x.toNat):Lib.equalFold s [120,109,108]=false:=by
 match j,hj,s,hx with
 |0,_,a::s,hx =>
  simp only[G3,f5]at hx;subst hx;exact Lib.equalFold_no _ _ _ _ (a0L h (by decide))
 |1,_,a::b::s,hx =>
  simp only[C7,G3,f5]at hx;subst hx;rw[Lib.equalFold,Lib.equalFold_no _ _ _ _ (a0L h (by decide)),Bool.and_false]
 |2,_,a::b::c::s,hx =>
  simp only[C7,G3,f5]at hx;subst hx;rw[Lib.equalFold,Lib.equalFold,Lib.equalFold_no _ _ _ _ (a0L h (by decide)),Bool.and_false,Bool.and_false]
theorem P0{w:World}{T:ByteArray}{q:Nat}{p:Nat×Int}(hF:a4J w)(h:p∈[((120:Nat),(88:Int)),(88,120),(109,77),(77,109),(108,76),(76,108),(85,117),(117,85),(84,116),(116,84),(70,102),(102,70),(45,45),(56,56)]):(w.iter T q).cell? ⟨3,p.1,none⟩=some (.int .u16 p.2):=by
 have h1:=hF p h
 have D0 : 3 < w.heap.size:=by
  rcases Nat.lt_or_ge 3 w.heap.size with D0|hge
  ·exact D0
  ·rw[World.cell?,D4 hge]at h1;cases h1
 exact(((b8 w.heap.size w).alloc (c9 _) _).cell (p:=⟨3,p.1,none⟩) D0).trans h1
theorem b9G{i:Nat}(h:i<3):∃y:UInt8,[(120:UInt8),109,108][i]? = some y/\y.toNat<128/\∀w,(Instr.index 9 (.string ⟨#[120,109,108]⟩) (.int .i64 (i:Int))).run Tryz.prog w=.ok (.int .u8 (y.toNat:Int)) w:=by
 match i,h with
 |0,_=>exact⟨120,rfl,by decide,fun w=>by kernel_rfl⟩
 |1,_=>exact⟨109,rfl,by decide,fun w=>by kernel_rfl⟩
 |2,_=>exact⟨108,rfl,by decide,fun w=>by kernel_rfl⟩
theorem b6R(S:ByteArray)(J2:S.size<=2000000)(w:World)(hF:a4J w) :
 Calls Tryz.prog 153 #[.string S,.string ⟨#[120,109,108]⟩] w fun e w'=>e=.returned (.bool (Lib.equalFold S.data.toList [120,109,108]))/\Below w.heap.size w w':=by
 obtain⟨R,hR⟩ : ∃R,Lib.equalFold S.data.toList [120,109,108]=R:=⟨_,rfl⟩;rw[hR];have HR:=a8 hR;clear hR;obtain⟨M,hM⟩ : ∃M:Nat,min (S.size:Int) 3=(M:Int):=⟨min S.size 3,by omega⟩
 have L0:M<=S.size:=by omega
 have L1:M<=3:=by omega
 have J3:M=S.size∨M=3:=by omega
 go_enter Tryz.func153,Tryz.ntmps153;go_wp2;refine wp_scope_jumps 0 (FJ S w) (fun _ _=>0) rfl ?first ?pass
 case first =>
  go_wp2
  go_loopg [5] M (fun g s5 wx=>w=wx/\∃i:Nat,i+g=M/\s5=.int .i64 i/\Lib.equalFold (S.data.toList.drop i) ([120,109,108].drop i)=R)
  case atStart=>exact⟨rfl,0,by omega,rfl,HR.out⟩
  case round =>
   obtain⟨rfl,i,L2,rfl,D2⟩:=hrel;have HI:=a8 D2;clear D2 hM;cases gk with
   |zero =>
    have J4:¬((i:Int)<(M:Int)):=by omega
    obtain rfl:i=M:=by omega
    have hE:decide (S.size=3)=R:=by
     rw[<-HI.out,Lib.equalFold_end _ _ (by
      rcases J3 with h|h
      ·exact Or.inl (List.drop_eq_nil_of_le (by rw[<-j9];omega))
      ·exact Or.inr (List.drop_eq_nil_of_le (by show 3<=i;omega))),B6,B6,<-j9]
     exact decide_eq_decide.2 (by show S.size=3↔S.size-i=3-i;omega)
    have HE:=a8 hE;clear hE;by_cases E8:S.size=3
    ·have hb:((S.size:Int)==3)=true:=x8.2 (by omega)
     go_wp2;simp only[Exit.jump];go_ret;exact⟨by rw[<-HE.out];simp[E8],b8 _ _⟩
    ·have hb:((S.size:Int)==3)=false:=e9.2 (by omega)
     go_wp2;simp only[Exit.jump];go_ret;exact⟨by rw[<-HE.out];simp[E8],b8 _ _⟩
   |succ g =>
    have J4:(i:Int)<(M:Int):=by omega
    have G1:i<3:=by omega
    obtain⟨y,hy,J6,L3⟩:=b9G G1;have E4:i<S.data.toList.length:=by rw[<-j9];omega
    have J7:=G7 S E4;obtain⟨x,hx⟩ : ∃x,S.data.toList[i]=x:=⟨_,rfl⟩;rw[hx]at J7;have G4:S.data.toList[i]? = some x:=by rw[i5 E4,hx]
    have Hx:Hid (S.data.toList[i]? = some x/\[(120:UInt8),109,108][i]? = some y):=⟨G4,hy⟩;clear G4 hy hx E4;by_cases D0:128<=x.toNat
    ·obtain⟨z,hz,L4⟩:=a9Z x D0 y
     go_wp2
     go_step3
     exact⟨rfl,i,x,_,_,_,_,_,_,_,_,_,_,_,_,_,_,_,_,_,_,_,_,_,_,_,_,_,_,_,_,_,_,_,_,_,_,_,_,_,_,_,_,_,_,_,_,_,_,_,_,_,_,rfl,G1,Hx.out.1,D0,rfl⟩
    ·have D3:x.toNat<128:=by omega
     have L5:bits .or .u8 (x.toNat:Int) (y.toNat:Int)=((x.toNat ||| y.toNat:Nat):Int):=u8_or_nat _ _ (by omega) (by omega)
     have E5:¬((128:Int)<=((x.toNat ||| y.toNat:Nat):Int)):=by have:=Nat.or_lt_two_pow (n:=7) D3 J6;omega
     clear D0;go_wp2
     all_goals (try simp only[x8,e9,ne_eq]at *)
     all_goals first
      |(go_roundg g
        case measure=>omega
        case rel=>exact⟨rfl,i+1,by omega,by first|rfl|simp,by rw[<-HI.out,Lib.drop_at Hx.out.1,Lib.drop_at Hx.out.2,Lib.equalFold_yes _ _ _ _ (i6 (by omega))]⟩)
      |(simp only[Exit.jump]
        go_ret;refine⟨?_,b8 _ _⟩;rw[<-HI.out,Lib.drop_at Hx.out.1,Lib.drop_at Hx.out.2,Lib.equalFold_no _ _ _ _ (f8 (by omega))]
        rfl)
 case pass =>
  rintro a' w'⟨j,x,u4,u6,u7,u8,u9,u10,u11,u12,u13,u14,u15,u16,u17,u18,u19,u20,u21,u22,u23,u24,u25,u26,u27,u28,u29,u30,u31,u32,u33,u34,u35,u36,u37,u38,u39,u40,u41,u42,u43,u44,u45,u46,u47,u48,u49,u50,u51,u52,u53,u54,rfl,hj,hx,E6,rfl⟩;have L6:j<S.size:=by rw[j9];exact(z8.1 hx).1
  have L7:(j:Int)<=(S.size:Int):=by omega
  obtain⟨T,hT⟩ : ∃T,S.extract j S.size=T:=⟨_,rfl⟩;have E7:T.data.toList[0]? = some x:=by rw[<-hT,J5,j9,I1,List.getElem?_drop,Nat.add_zero];exact hx
  have G5:=(z8.1 E7).1;have G6:0<T.size:=by rw[j9];exact G5
  have G8:T.get! 0=x:=by
   have h1:T.data[0]? = some x:=by rw[<-A9];exact E7
   show T.data[0]! = x
   rw[getElem!_def,h1]
  have hd:=a8j T (by rw[G8];exact E6)
  have J8:=decode_le T 0;have G9:=fun ty=>run_next_any (P:=Tryz.prog) w' T 0 ty G6;generalize (Utf8.decode T 0).1=r at hd J8 G9;generalize 0+(Utf8.decode T 0).2=q at G9;have L8:(128:Int)<=(r:Int):=by omega
  clear E7 G5 G6 G8 hd;have D1:Hid (a4J w'):=hF
  have J9:false=R:=by
   rw[<-HR.out];exact(b0Z hj hx E6).symm
  subst J9;clear hF hM hx E6 HR
  match j,hj with
  |0,_ =>
   have hX:(⟨#[120,109,108]⟩ : ByteArray).extract 0 3=⟨#[120,109,108]⟩:=G0 (by rw[J5];rfl)
   have J1:(⟨#[120,109,108]⟩ : ByteArray).extract 1 3=⟨#[109,108]⟩:=G0 (by rw[J5];rfl)
   have HD:Hid (∀w,Calls Tryz.prog 193 #[.string ⟨#[120,109,108]⟩] w fun e w'=>e=.returned (.tuple #[.int .i32 120,.int .i64 1])/\w'=w):=R5 ⟨#[120,109,108]⟩ 120 (by decide) (by rw[f9];simp) (fun w=>by kernel_rfl)
   have D9:Hid (Calls Tryz.prog 194 #[.int .i32 120] (w'.iter T q) fun e w1=>e=.returned (.int .i32 88)/\w1=w'.iter T q):=M5 120 88 (by omega) (by omega) (by omega) _ (P0 (p:=(120,88)) D1.out (by simp))
   have E0:Hid (Calls Tryz.prog 194 #[.int .i32 88] (w'.iter T q) fun e w1=>e=.returned (.int .i32 120)/\w1=w'.iter T q):=M5 88 120 (by omega) (by omega) (by omega) _ (P0 (p:=(88,120)) D1.out (by simp))
   have r1:((120:Int)==(r:Int))=false:=by rw[e9];omega
   have r2:(120:Int)<(r:Int):=by omega
   have r3:¬(r:Int)<128:=by omega
   have r4:(88:Int)<(r:Int):=by omega
   go_wp2;refine wp_loop_rounds 1 ?_;rw[rounds_succ]
   go_wp2_with fail
   refine(HD.out _).mono ?_;rintro e w1⟨rfl,E1⟩;rw[E1]
   go_wp2_with fail
   refine D9.out.mono ?_;rintro e w2⟨rfl,E2⟩;rw[E2];go_wp2;refine wp_loop_rounds 2 ?_;rw[rounds_succ]
   go_wp2_with fail
   refine E0.out.mono ?_;rintro e w3⟨rfl,E3⟩;rw[E3];go_wp2;rw[rounds_succ];go_wp2;simp only[Exit.jump];go_ret;exact⟨rfl,(b8 w'.heap.size w').alloc (c9 _) _⟩
  |1,_ =>
   have hX:(⟨#[120,109,108]⟩ : ByteArray).extract 1 3=⟨#[109,108]⟩:=G0 (by rw[J5];rfl)
   have J1:(⟨#[109,108]⟩ : ByteArray).extract 1 2=⟨#[108]⟩:=G0 (by rw[J5];rfl)
   have HD:Hid (∀w,Calls Tryz.prog 193 #[.string ⟨#[109,108]⟩] w fun e w'=>e=.returned (.tuple #[.int .i32 109,.int .i64 1])/\w'=w):=R5 ⟨#[109,108]⟩ 109 (by decide) (by rw[f9];simp) (fun w=>by kernel_rfl)
   have D9:Hid (Calls Tryz.prog 194 #[.int .i32 109] (w'.iter T q) fun e w1=>e=.returned (.int .i32 77)/\w1=w'.iter T q):=M5 109 77 (by omega) (by omega) (by omega) _ (P0 (p:=(109,77)) D1.out (by simp))
   have E0:Hid (Calls Tryz.prog 194 #[.int .i32 77] (w'.iter T q) fun e w1=>e=.returned (.int .i32 109)/\w1=w'.iter T q):=M5 77 109 (by omega) (by omega) (by omega) _ (P0 (p:=(77,109)) D1.out (by simp))
   have r1:((109:Int)==(r:Int))=false:=by rw[e9];omega
   have r2:(109:Int)<(r:Int):=by omega
   have r3:¬(r:Int)<128:=by omega
   have r4:(77:Int)<(r:Int):=by omega
   go_wp2;refine wp_loop_rounds 1 ?_;rw[rounds_succ]
   go_wp2_with fail
   refine(HD.out _).mono ?_;rintro e w1⟨rfl,E1⟩;rw[E1]
   go_wp2_with fail
   refine D9.out.mono ?_;rintro e w2⟨rfl,E2⟩;rw[E2];go_wp2;refine wp_loop_rounds 2 ?_;rw[rounds_succ]
   go_wp2_with fail
   refine E0.out.mono ?_;rintro e w3⟨rfl,E3⟩;rw[E3];go_wp2;rw[rounds_succ];go_wp2;simp only[Exit.jump];go_ret;exact⟨rfl,(b8 w'.heap.size w').alloc (c9 _) _⟩
  |2,_ =>
   have hX:(⟨#[120,109,108]⟩ : ByteArray).extract 2 3=⟨#[108]⟩:=G0 (by rw[J5];rfl)
   have J1:(⟨#[108]⟩ : ByteArray).extract 1 1=⟨#[]⟩:=G0 (by rw[J5];rfl)
   have HD:Hid (∀w,Calls Tryz.prog 193 #[.string ⟨#[108]⟩] w fun e w'=>e=.returned (.tuple #[.int .i32 108,.int .i64 1])/\w'=w):=R5 ⟨#[108]⟩ 108 (by decide) (by rw[f9];simp) (fun w=>by kernel_rfl)
   have D9:Hid (Calls Tryz.prog 194 #[.int .i32 108] (w'.iter T q) fun e w1=>e=.returned (.int .i32 76)/\w1=w'.iter T q):=M5 108 76 (by omega) (by omega) (by omega) _ (P0 (p:=(108,76)) D1.out (by simp))
   have E0:Hid (Calls Tryz.prog 194 #[.int .i32 76] (w'.iter T q) fun e w1=>e=.returned (.int .i32 108)/\w1=w'.iter T q):=M5 76 108 (by omega) (by omega) (by omega) _ (P0 (p:=(76,108)) D1.out (by simp))
   have r1:((108:Int)==(r:Int))=false:=by rw[e9];omega
   have r2:(108:Int)<(r:Int):=by omega
   have r3:¬(r:Int)<128:=by omega
   have r4:(76:Int)<(r:Int):=by omega
   go_wp2;refine wp_loop_rounds 1 ?_;rw[rounds_succ]
   go_wp2_with fail
   refine(HD.out _).mono ?_;rintro e w1⟨rfl,E1⟩;rw[E1]
   go_wp2_with fail
   refine D9.out.mono ?_;rintro e w2⟨rfl,E2⟩;rw[E2];go_wp2;refine wp_loop_rounds 2 ?_;rw[rounds_succ]
   go_wp2_with fail
   refine E0.out.mono ?_;rintro e w3⟨rfl,E3⟩;rw[E3];go_wp2;rw[rounds_succ];go_wp2;simp only[Exit.jump];go_ret;exact⟨rfl,(b8 w'.heap.size w').alloc (c9 _) _⟩
end
section
open Go.RowKit
structure Dc where
 p:ByteArray
 u:ByteArray
structure At where
 p:ByteArray
 l:ByteArray
 u:ByteArray
 v:ByteArray
structure Nd where
 k:Int
 n:Int
 p:ByteArray
 l:ByteArray
 u:ByteArray
 t:ByteArray
 ds:List Dc
 ats:List At
def C1(d:Dc):List Value:=[.string d.p,.string d.u]
def atC(a:At):List Value:=[.string a.p,.string a.l,.string a.u,.string a.v]
def R1(w:World)(B:Nat)(v:Value)(n:Nat)(xs:List Value):Prop :=
 ∃A cap,v=.slice A n cap/\n<=cap/\cap<=9223372036854775807/\Q3 w B A xs
def a0P(w:World)(B:Nat)(v:Value)(ds:List Dc):Prop:=R1 w B v ds.length (ds.flatMap C1)
def a23(w:World)(B:Nat)(v:Value)(as':List At):Prop:=R1 w B v as'.length (as'.flatMap atC)
def ndC(x:Nd)(vd va:Value):List Value:=[.int .i64 x.k,.int .i64 x.n,.string x.p,.string x.l,.string x.u,.string x.t,vd,va]
def NdV(w:World)(B:Nat)(v:Value)(x:Nd):Prop :=
 ∃vd va,v=.agg #[.int .i64 x.k,.int .i64 x.n,.string x.p,.string x.l,.string x.u,.string x.t,vd,va]/\a0P w B vd x.ds/\a23 w B va x.ats
def NdM(w:World)(B:Nat)(b o:Nat)(x:Nd):Prop :=
 ∃vd va,(∀j (hj:j<8),w.cell? ⟨b,o+j,none⟩=some ((ndC x vd va)[j]'hj))/\a0P w B vd x.ds/\a23 w B va x.ats
def S3(w:World)(B:Nat)(v:Value)(l:List Nd):Prop :=
 ∃A cap,v=.slice A l.length cap/\l.length<=cap/\cap<=9223372036854775807/\(l≠[]->∃b o,A=some ⟨b,o,none⟩/\b<B/\∀i (hi:i<l.length),NdM w B b (o+i*8) l[i])
theorem R1.below{w w':World}{B:Nat}{v:Value}{n:Nat}{xs:List Value}(h:R1 w B v n xs)(hb:Below B w w'):R1 w' B v n xs:=by
 obtain⟨A,cap,e,h1,h2,h3⟩:=h;exact⟨A,cap,e,h1,h2,h3.below hb⟩
theorem R1.mono{w:World}{B B':Nat}{v:Value}{n:Nat}{xs:List Value}(h:R1 w B v n xs)(hb:B<=B'):R1 w B' v n xs:=by
 obtain⟨A,cap,e,h1,h2,h3⟩:=h;exact⟨A,cap,e,h1,h2,h3.mono hb⟩
theorem NdV.below{w w':World}{B:Nat}{v:Value}{x:Nd}(h:NdV w B v x)(hb:Below B w w'):NdV w' B v x:=by
 obtain⟨vd,va,e,h1,h2⟩:=h;exact⟨vd,va,e,R1.below h1 hb,R1.below h2 hb⟩
theorem NdV.mono{w:World}{B B':Nat}{v:Value}{x:Nd}(h:NdV w B v x)(hb:B<=B'):NdV w B' v x:=by
 obtain⟨vd,va,e,h1,h2⟩:=h;exact⟨vd,va,e,R1.mono h1 hb,R1.mono h2 hb⟩
theorem NdM.below{w w':World}{B b o:Nat}{x:Nd}(D0:b<B)(h:NdM w B b o x)(hb:Below B w w'):NdM w' B b o x:=by
 obtain⟨vd,va,e,h1,h2⟩:=h;exact⟨vd,va,fun j hj=>(hb.cell (p:=⟨b,o+j,none⟩) D0).trans (e j hj),R1.below h1 hb,R1.below h2 hb⟩
theorem S3.below{w w':World}{B:Nat}{v:Value}{l:List Nd}(h:S3 w B v l)(hb:Below B w w'):S3 w' B v l:=by
 obtain⟨A,cap,e,h1,h2,h3⟩:=h;refine⟨A,cap,e,h1,h2,fun hl => ?_⟩;obtain⟨b,o,e',D0,hi⟩:=h3 hl;exact⟨b,o,e',D0,fun i h=>(hi i h).below D0 hb⟩
theorem S3.mono{w:World}{B B':Nat}{v:Value}{l:List Nd}(h:S3 w B v l)(hb:B<=B'):S3 w B' v l:=by
 obtain⟨A,cap,e,h1,h2,h3⟩:=h;refine⟨A,cap,e,h1,h2,fun hl => ?_⟩;obtain⟨b,o,e',D0,hi⟩:=h3 hl;refine⟨b,o,e',by omega,fun i h => ?_⟩
 obtain⟨vd,va,c,h1,h2⟩:=hi i h;exact⟨vd,va,c,R1.mono h1 hb,R1.mono h2 hb⟩
theorem R1.later{w w':World}{v:Value}{n:Nat}{xs:List Value}(h:R1 w w.heap.size v n xs)(hb:Below w.heap.size w w'):R1 w' w'.heap.size v n xs:=(h.below hb).mono hb.size
theorem NdV.later{w w':World}{v:Value}{x:Nd}(h:NdV w w.heap.size v x)(hb:Below w.heap.size w w'):NdV w' w'.heap.size v x:=(h.below hb).mono hb.size
theorem S3.later{w w':World}{v:Value}{l:List Nd}(h:S3 w w.heap.size v l)(hb:Below w.heap.size w w'):S3 w' w'.heap.size v l:=(h.below hb).mono hb.size
theorem NdM.cells{w:World}{B b o:Nat}{x:Nd}(h:NdM w B b o x):∃vd va,w.cell? ⟨b,o,none⟩=some (.int .i64 x.k)/\w.cell? ⟨b,o+1,none⟩=some (.int .i64 x.n)/\w.cell? ⟨b,o+2,none⟩=some (.string x.p) /\
 w.cell? ⟨b,o+3,none⟩=some (.string x.l)/\w.cell? ⟨b,o+4,none⟩=some (.string x.u)/\w.cell? ⟨b,o+5,none⟩=some (.string x.t)/\w.cell? ⟨b,o+6,none⟩=some vd/\w.cell? ⟨b,o+7,none⟩=some va/\a0P w B vd x.ds/\a23 w B va x.ats:=by
 obtain⟨vd,va,c,h1,h2⟩:=h;exact⟨vd,va,c 0 (by omega),c 1 (by omega),c 2 (by omega),c 3 (by omega),c 4 (by omega),c 5 (by omega),c 6 (by omega),c 7 (by omega),h1,h2⟩
theorem S3.open{w:World}{B:Nat}{v:Value}{l:List Nd}(h:S3 w B v l)(hl:l≠[]):∃b o cap,v=.slice (some ⟨b,o,none⟩) l.length cap/\l.length<=cap/\cap<=9223372036854775807/\b<B/\∀i (hi:i<l.length),NdM w B b (o+i*8) l[i]:=by
 obtain⟨A,cap,e,h1,h2,h3⟩:=h;obtain⟨b,o,rfl,D0,hi⟩:=h3 hl;exact⟨b,o,cap,e,h1,h2,D0,hi⟩
theorem S3.slice{w:World}{B:Nat}{v:Value}{l:List Nd}(h:S3 w B v l):∃A cap,v=.slice A l.length cap/\l.length<=cap/\cap<=9223372036854775807:=by
 obtain⟨A,cap,e,h1,h2,_⟩:=h;exact⟨A,cap,e,h1,h2⟩
end
section
open Go.RowKit
structure Wd(w:World):Prop where
 tabs:a2Z w
 max:I3 w
 fold:a4J w
theorem a4J.lt{w:World}(h:a4J w) : 3 < w.heap.size:=by
 have h1:=h (120,88) (by simp)
 rcases Nat.lt_or_ge 3 w.heap.size with hlt|hge
 ·exact hlt
 ·rw[World.cell?,D4 hge]at h1;cases h1
theorem Wd.later{w w':World}(h:Wd w)(hb:Below w.heap.size w w'):Wd w' :=
 ⟨h.tabs.below h.tabs.five hb,h.max.below h.max.lt hb,fun p hp=>(hb.cell (p:=⟨3,p.1,none⟩) h.fold.lt).trans (h.fold p hp)⟩
def txt(s:List UInt8):Prop:=∃l:List Int,l.all R7=true/\l.all P9=true/\s=y9 l
theorem b5H{l:List Int}(hl:l.all R7=true):txt (y9 l)↔l.all P9=true:=by
 constructor
 ·rintro⟨k,h1,h2,e⟩
  rwa [a45 hl h1 e]
 ·intro h
  exact⟨l,hl,h,rfl⟩
theorem b7Z{s:List UInt8}(h:Lib.validD s=false):¬txt s:=by
 rintro⟨l,h1,_,e⟩;have:=(a1L s).2 ⟨l,h1,e⟩;rw[h]at this;cases this
open Classical in
noncomputable def a1q(s:List UInt8):Bool:=decide (txt s)
theorem U6{s:List UInt8}:a1q s=true↔txt s:=by simp[a1q]
theorem a1P{s:List UInt8}{e:Ending}(h:a9N s e):e=.returned (.bool (a1q s)):=by
 rcases h with⟨l,h1,rfl,rfl⟩|⟨h1,rfl⟩
 ·congr 2
  rw[A8,U6,b5H h1]
 ·congr 2
  cases ht:a1q s with
  |false=>rfl
  |true=>exact absurd (U6.1 ht) (b7Z h1)
noncomputable def tx(S:ByteArray):Bool:=a1q S.data.toList
noncomputable def nmS(S:ByteArray):Bool:=nmB S.data.toList
def N4(S:ByteArray)(l:List UInt8):Bool:=S.toList==l
theorem a0p{S:ByteArray}{l:List UInt8}:N4 S l=true↔S.data.toList=l:=by simp[N4,f9]
theorem a13{S:ByteArray}{b:Bool}(h:N4 S []=b):(S.toList == [])=b/\S.toList.isEmpty=b:=⟨h,by rw[<-h];unfold N4;cases S.toList<;>rfl⟩
theorem a1j(S:ByteArray)(E0:S.size<=2000000)(w:World)(hW:Wd w):Calls Tryz.prog 169 #[.string S] w fun e w'=>e=.returned (.bool (tx S))/\Below w.heap.size w w':=by
 obtain⟨c,W,E3,D0,D2,D1,D3,D9⟩:=a3p S (by omega) w
 have E1:Hid (Calls Tryz.prog 41 #[.slice (some ⟨w.heap.size,0,none⟩) S.size c] W fun e w'=>e=.returned (.bool (tx S))/\Below W.heap.size W w'):=by
  have h:=a6e (some ⟨w.heap.size,0,none⟩) c S.data.toList W (hW.later D1).tabs.u (Y1 D2 D0) (by rw[<-j9];exact D3) D9 (by rw[<-j9];omega)
  rw[<-j9]at h;exact h.mono fun e w' ⟨h1,h2⟩=>⟨a1P h1,h2⟩
 clear D0 D2 D3 D9 hW;generalize tx S=B at *;go_enter Tryz.func169,Tryz.ntmps169
 go_wp2_with fail
 refine E1.out.mono ?_;rintro e w1⟨rfl,E2⟩;go_wp2;go_ret;exact⟨rfl,D1.trans (E2.mono D1.size)⟩
theorem a2g(S:ByteArray)(E0:S.size<=2000000)(w:World):Calls Tryz.prog 182 #[.string S] w fun e w'=>e=.returned (.bool (tx S))/\Below w.heap.size w w':=by
 obtain⟨c,W,E3,D0,D1,D2,D3,D9⟩:=a3p S (by omega) w
 have E1:Hid (Calls Tryz.prog 45 #[.slice (some ⟨w.heap.size,0,none⟩) S.size c] W fun e w'=>e=.returned (.bool (tx S))/\Below W.heap.size W w'):=by
  have h:=a2C (some ⟨w.heap.size,0,none⟩) c S.data.toList W (Y1 D1 D0) (by rw[<-j9];exact D3) D9 (by rw[<-j9];omega)
  rw[<-j9]at h;exact h.mono fun e w' ⟨h1,h2⟩=>⟨a1P h1,h2⟩
 clear D0 D1 D3 D9;generalize tx S=B at *;go_enter Tryz.func182,Tryz.ntmps182
 go_wp2_with fail
 refine E1.out.mono ?_;rintro e w1⟨rfl,E2⟩;go_wp2;go_ret;exact⟨rfl,D2.trans (E2.mono D2.size)⟩
noncomputable def a0g(S:ByteArray):Bool:=N4 S []||nmS S
theorem a3H(S:ByteArray)(D0:S.size<=2000000)(w:World)(hW:Wd w):Calls Tryz.prog 204 #[.string S] w fun e w'=>e=.returned (.bool (a0g S))/\Below w.heap.size w w':=by
 have HN:Hid (Calls Tryz.prog 199 #[.string S] w fun e w'=>e=.returned (.bool (nmS S))/\Below w.heap.size w w'):=a3K S D0 w hW.tabs;clear hW;unfold a0g;cases h0:N4 S []with
 |true =>
  obtain⟨t1,t2⟩:=a13 h0;go_enter Tryz.func204,Tryz.ntmps204;go_wp2;go_ret;exact⟨rfl,b8 _ _⟩
 |false =>
  obtain⟨t1,t2⟩:=a13 h0;generalize nmS S=B at *;go_enter Tryz.func204,Tryz.ntmps204
  go_wp2_with fail
  refine HN.out.mono ?_;rintro e w1⟨rfl,D1⟩;go_wp2;go_ret;exact⟨by simp,D1⟩
end
end Go.Proofs.YtlgcigmolfhamaaGreatDoor
