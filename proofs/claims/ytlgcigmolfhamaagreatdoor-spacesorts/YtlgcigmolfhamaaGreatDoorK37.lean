/-
  strings.IndexRune at a valid letter beyond ASCII and a text of ASCII: -1. Conditions: the text is short.
  What decoding a letter beyond ASCII passes over: plain mathematics. Conditions: none.
  strings.IndexAny at a short text of any bytes. Conditions: the letters looked for are ASCII, two or more.
  strings.EqualFold at a text and "UTF-8", and parse.isEncoding. Conditions: unicode's own table of letters lies as it is laid; the text is not too long.
  What parse.Parse answers, by a text's document. Conditions: at most 40,000 bytes.
-/
import Derived.Test.YtlgcigmolfhamaaGreatDoorK36
import Derived.Laws.Runes
import Derived.Lib.OthersKept
import Derived.Test.YtlgcigmolfhamaaGreatDoorK35
namespace Go.Proofs.YtlgcigmolfhamaaGreatDoor
set_option linter.unusedVariables false
set_option maxRecDepth 100000
set_option maxHeartbeats 8000000
section
open Go.RowKit Go.Shelf
theorem a72{c:UInt8}:∀s:List UInt8,(∀b∈s,b≠c)->Lib.indexByte s c = -1
 | [],_=>rfl
 |b::s,h=>by
  have ih:=a72 s (fun x hx=>h x (List.mem_cons_of_mem _ hx));have hb:=h b (List.mem_cons_self ..);simp[Lib.indexByte,hb,ih]
theorem b0g(S:ByteArray){m:Nat}(h:m<S.size)(w:World):(Instr.slice 9 (.string S) (some (.int .i64 ((m:Int)+1))) none none).run Tryz.prog w=.ok (.string (S.extract (m+1) S.size)) w:=by
 have h3:(0:Int)<=(m:Int)+1/\(m:Int)+1<=(S.size:Int):=by omega
 have h4:((m:Int)+1).toNat=m+1:=by omega
 have h5:(0:Int)<=(S.size:Int):=by omega
 simp[Instr.slice,run_underlying Tryz.underlying9,Instr.sliceBounds,Instr.sliceBound,asIntOf,h3,h4]
theorem b8l(S:ByteArray)(hS:∀(j:Nat) b,S.data.toList[j]? = some b->b.toNat<128)(hs:S.size<=100)(r:Int)(h:128<=r)(h1:r≠65533)(hb:R7 r=true)(w:World):Calls Tryz.prog 220 #[.string S,.int .i32 r] w fun e w'=>e=.returned (.int .i64 (-1))/\Below w.heap.size w w':=by
 have HV:=a8 (a0G r w);rw[hb]at HV;have h2:(0:Int)<=r:=by omega
 have h3:¬r<128:=by omega
 have h4:(r==65533)=false:=e9.2 h1
 have hv:Utf8.valid r=true:=by
  unfold R7 at hb;have:=of_decide_eq_true hb;unfold Utf8.valid;simp;omega
 obtain⟨k2,k4,kl⟩:=encode_facts r hv h;obtain⟨T,hT⟩ : ∃T,Utf8.encode r=T:=⟨_,rfl⟩;rw[hT]at k2 k4;have HT:=a8 hT
 have E7:(convert 21 9 (.int .i32 r)).run Tryz.prog w=.ok (.string T) w:=by
  rw[<-hT];exact run_convert_int_string w _ _ _ _ rfl Tryz.underlying9
 obtain⟨m,hm⟩ : ∃m,T.size=m+1:=⟨T.size-1,by omega⟩
 have D1:m<T.data.toList.length:=by rw[<-j9];omega
 obtain⟨c,hc⟩ : ∃c,T.data.toList[m]=c:=⟨_,rfl⟩
 have D2:128<=c.toNat:=by
  subst hT;have:=kl (by omega)
  have e1:(Utf8.encode r)[(Utf8.encode r).size-1]'(by omega)=c:=by
   rw[<-hc];have hq:(Utf8.encode r).size-1=m:=by omega
   simp only[hq]
   rfl
  rw[e1]at this;exact this
 have E0:=G7 T D1;rw[hc]at E0;clear hb h h1 hv kl hT D1 hc;have HA:=a8 hS;have E1:((T.size:Nat):Int)-1=(m:Int):=by omega
 clear hS;by_cases E2:m<S.size
 ·have D0:m<S.data.toList.length:=by rw[<-j9];omega
  have E3:=G7 S D0;obtain⟨x,hx⟩ : ∃x,S.data.toList[m]=x:=⟨_,rfl⟩;rw[hx]at E3;have D3:x.toNat<128:=HA.out m x (by rw[i5 D0,hx])
  have E8:((x.toNat:Int) != (c.toNat:Int))=true:=by simp;omega
  have E4:(m:Int)<(S.size:Int):=by omega
  have E5:(m:Int)+1<=(S.size:Int):=by omega
  have G0:IntKind.i64.wrap ((m:Int)+1)=(m:Int)+1:=by rw[IntKind.wrap_i64];omega
  have D9:Hid (∀w1,Calls Tryz.prog 234 #[.string (S.extract (m+1) S.size),.int .u8 (c.toNat:Int)] w1 fun e w'=>e=.returned (.int .i64 (-1))/\w'=w1):=fun w1=>by
   have h:=Any.strings_IndexByte (P:=Tryz.prog) (ρ:=b9W) { b3m with } (S.extract (m+1) S.size) (c.toNat:Int) w1;rw[show((c.toNat:Int)).toNat.toUInt8=c by simp]at h
   rw[a72 _ (fun b hb e=>by
    rw[J5,j9,I1]at hb;obtain⟨j,hj⟩:=List.getElem?_of_mem (List.mem_of_mem_drop hb);have:=HA.out j b hj;subst e;omega)]at h
   exact h
  have E6:=b0g S E2;obtain⟨X,hX⟩ : ∃X,S.extract (m+1) S.size=X:=⟨_,rfl⟩;rw[hX]at D9 E6;clear hx D0 hX;go_enter Tryz.func220,Tryz.ntmps220
  go_wp2_with fail
  refine HV.out.mono ?_;rintro e w1⟨rfl,hw⟩;subst hw;go_wp2;refine wp_scope_jumps 1 (fun _ _=>False) (fun _ _=>0) rfl ?first ?pass
  case pass=>rintro a' w' ⟨⟩
  case first =>
  go_upto_region 6 with fail
  refine wp_loop_rounds 1 ?_;rw[rounds_succ]
  go_wp2_with fail
  refine wp_scope_jumps 0 (fun _ _=>False) (fun _ _=>0) rfl ?f2 ?p2
  case p2=>rintro a' w' ⟨⟩
  case f2 =>
  go_wp2_with fail
  go_quiet (fail)
  go_wp2_with fail
  go_quiet ((go_at_call 234;exact(D9.out _).mono (fun e w'' h=>⟨h.1,_,h.2⟩)))
  go_wp2;dsimp +zetaDelta only [Exit.jump,Exit.inBlock,Exit.then];go_ret;exact⟨rfl,i7 (b8 _ _) _⟩
 ·have E4:¬(m:Int)<(S.size:Int):=by omega
  go_enter Tryz.func220,Tryz.ntmps220
  go_wp2_with fail
  refine HV.out.mono ?_;rintro e w1⟨rfl,hw⟩;subst hw;go_wp2;refine wp_scope_jumps 1 (fun _ _=>False) (fun _ _=>0) rfl ?first ?pass
  case pass=>rintro a' w' ⟨⟩
  case first =>
  go_upto_region 6 with fail
  refine wp_loop_rounds 1 ?_;rw[rounds_succ];go_wp2;dsimp +zetaDelta only [Exit.jump,Exit.inBlock,Exit.then];go_ret;exact⟨rfl,b8 _ _⟩
end
section
open Go.RowKit Go.Shelf
theorem b2J(s:ByteArray)(i:Nat)(hi:i<s.size)(h0:128<=(s.get! (i+0)).toNat):128<=(Utf8.decode s i).1/\1<=(Utf8.decode s i).2/\(Utf8.decode s i).2<=4/\i+(Utf8.decode s i).2<=s.size/\(1<(Utf8.decode s i).2->128<=(s.get! (i+1)).toNat)/\(2<(Utf8.decode s i).2->128<=(s.get! (i+2)).toNat)/\(3<(Utf8.decode s i).2->128<=(s.get! (i+3)).toNat):=by
 have hb:∀k,(s.get! (i+k)).toNat<256:=fun k=>(s.get! (i+k)).toNat_lt;have b0:=hb 0;have b1:=hb 1;have b2:=hb 2;have b3:=hb 3
 clear hb;simp only[Utf8.decode];obtain⟨a0,e0⟩ : ∃a,(s.get! (i+0)).toNat=a:=⟨_,rfl⟩;obtain⟨a1,e1⟩ : ∃a,(s.get! (i+1)).toNat=a:=⟨_,rfl⟩;obtain⟨a2,e2⟩ : ∃a,(s.get! (i+2)).toNat=a:=⟨_,rfl⟩;obtain⟨a3,e3⟩ : ∃a,(s.get! (i+3)).toNat=a:=⟨_,rfl⟩;simp only[e0,e1,e2,e3]at *;obtain⟨n,hn⟩ : ∃n,s.size=n:=⟨_,rfl⟩;rw[hn]at hi ⊢
 repeat' split
 all_goals simp only[i4,t8,x8,Utf8.runeError,ge_iff_le]at *
 all_goals omega
end
section
open Go.RowKit Go.Shelf
theorem b5Z(S:ByteArray)(hS:∀(j:Nat) b,S.data.toList[j]? = some b->b.toNat<128)(hs:S.size<=100)(r:Nat)(h:128<=r)(w:World):Calls Tryz.prog 220 #[.string S,.int .i32 (r:Int)] w fun e w'=>e=.returned (.int .i64 (-1))/\Below w.heap.size w w':=by
 by_cases h1:r=65533
 ·subst h1;exact b5Y S hS w
 ·cases hb:R7 (r:Int)with
  |false=>exact(b50 S r (by omega) (by omega) hb w).mono fun e w' ⟨a,b⟩=>⟨a,b ▸ b8 _ _⟩
  |true=>exact b8l S hS hs r (by omega) (by omega) hb w
theorem b6P(S:ByteArray)(k:Nat){x:UInt8}(h:S.data.toList[k]? = some x):S.get! k=x:=by
 have h1:S.data[k]? = some x:=by rw[<-A9];exact h
 show S.data[k]! = x
 rw[getElem!_def,h1]
theorem c0a{e:List UInt8}(he:∀(j:Nat) b,e[j]? = some b->b.toNat<128){b:UInt8}(hb:128<=b.toNat):e.contains b=false:=by
 cases h:e.contains b with
 |false=>rfl
 |true =>
  rw[List.contains_iff_mem]at h;obtain⟨j,hj⟩:=List.getElem?_of_mem h;have:=he j b hj;omega
theorem b4l(S E:ByteArray)(w:World)(h8:S.size<=8)(h2:2<=E.size)(h6:E.size<=100)(hE:∀(j:Nat) b,E.data.toList[j]? = some b->b.toNat<128):Calls Tryz.prog 198 #[.string S,.string E] w fun r w'=>r=.returned (.int .i64 (Lib.indexAny S.data.toList E.data.toList))/\Below w.heap.size w w':=by
 have G1:(E.toList == [])=false:=by
  rw[f9,e9];intro h;rw[j9,h]at h2;simp at h2
 have G6:E.toList.isEmpty=false:=by simpa using G1
 have J8:((E.size:Int)==1)=false:=e9.2 (by omega)
 have J9:¬(8:Int)<(S.size:Int):=by omega
 have HA:=a8 hE;clear hE;go_enter Tryz.func198,Tryz.ntmps198;go_wp2
 go_loopw [9,10] (fun _ _ wr => ∃i:Nat,i<=S.size/\wr.heap[w.heap.size]? = some (.stringIter S i)/\Below w.heap.size w wr/\Lib.NoAny S.data.toList E.data.toList i) (fun _ _ wr=>S.size-wr.iterPos w.heap.size)
 case atStart=>exact⟨0,o4 _,by simpa using World.iter_heap w S 0,(b8 _ w).alloc (c9 _) _,Lib.NoAny.zero _ _⟩
 case round =>
  obtain⟨i,hi,D2,hb,E3⟩:=hrel;have HB:=a8 hb;have HN:=a8 E3;have L0:w.heap.size<wr.heap.size:=(Array.getElem?_eq_some_iff.1 D2).1;have G7:wr.iterPos w.heap.size=i:=by unfold World.iterPos;rw[D2]
  have G8:=a8 G7;clear hb E3 G7;by_cases hp:i<S.size
  ·have J3:i<S.data.toList.length:=by rw[<-j9];exact hp
   obtain⟨x,hx⟩ : ∃x,S.data.toList[i]=x:=⟨_,rfl⟩;have E7:S.data.toList[i]? = some x:=by rw[i5 J3,hx]
   have hg:S.get! (i+0)=x:=b6P S i E7;have E0:=fun ty=>Lib.run_next_any_at (P:=Tryz.prog) wr w.heap.size S i ty D2 hp;have HX:=a8 E7;by_cases D3:128<=x.toNat
   ·obtain⟨d1,d2,d3,d4,d5,d6,d7⟩:=b2J S i hp (by rw[hg];exact D3)
    have D0:=Lib.iterAt_heap wr w.heap.size S i (i+(Utf8.decode S i).2) D2;have E1:=Lib.below_iterAt HB.out (k:=w.heap.size) (c9 _) S (i+(Utf8.decode S i).2)
    have E3:Lib.NoAny S.data.toList E.data.toList (i+(Utf8.decode S i).2):=fun j b hj G9=>by
     rcases Nat.lt_or_ge j i with h|h
     ·exact HN.out j b h G9
     ·refine c0a HA.out ?_
      have E8:=b6P S j G9;rcases(by omega:j=i∨j=i+1∨j=i+2∨j=i+3)with e|e|e|e
      ·subst e;rw[Nat.add_zero]at hg;rw[<-E8,hg];exact D3
      ·subst e;rw[<-E8];exact d5 (by omega)
      ·subst e;rw[<-E8];exact d6 (by omega)
      ·subst e;rw[<-E8];exact d7 (by omega)
    generalize (Utf8.decode S i).1=r at *;generalize (Utf8.decode S i).2=q at *;have J4:=a8 E3;have E2:=a8 D0;have E4:=a8 E1;obtain⟨w5,D9⟩ : ∃w5,wr.iterAt w.heap.size S (i+q)=w5:=⟨_,rfl⟩;rw[D9]at E2 E4;have HR:=a8 (b5Z E HA.out h6 r d1 w5);have J5:∀ty,(Instr.next (.pointer (some ⟨w.heap.size,0,none⟩)) true ty).run Tryz.prog wr=.ok (.tuple #[.bool true,.int .i64 i,.int .i32 r]) w5:=fun ty=>by rw[E0 ty,D9]
    clear E0 E3 D0 E1 D9 d5 d6 d7 hg E7 hx D2
    go_wp2_with fail
    refine HR.out.mono ?_;rintro e w6⟨rfl,G4⟩;have E5:w.heap.size<w5.heap.size:=(Array.getElem?_eq_some_iff.1 E2.out).1;have E6:=a8 ((G4.block w.heap.size E5).trans E2.out);have J6:=a8 (E4.out.trans (G4.mono (A6 E5)));clear G4;go_wp2
    go_roundw
    case rel=>exact⟨i+q,d4,E6.out,J6.out,J4.out⟩
    case measure =>
     rw[G8.out,show w6.iterPos w.heap.size=i+q by unfold World.iterPos;rw[E6.out]]
     omega
   ·have J1:x.toNat<128:=by omega
    have hd:Utf8.decode S i=(x.toNat,1):=by
     unfold Utf8.decode;simp only[hg];rw[g8 (by omega)]
    rw[hd]at E0;have D0:=Lib.iterAt_heap wr w.heap.size S i (i+1) D2;have E1:=Lib.below_iterAt HB.out (k:=w.heap.size) (c9 _) S (i+1);obtain⟨w5,D9⟩ : ∃w5,wr.iterAt w.heap.size S (i+1)=w5:=⟨_,rfl⟩;dsimp only at E0;simp only[D9]at E0;rw[D9]at D0 E1;have E2:=a8 D0;have E4:=a8 E1;have hR:=Any.strings_IndexRune_ascii (P:=Tryz.prog) (ρ:=b9W) { b3m with } E (x.toNat:Int) w5 (by omega) (by omega)
    rw[show((x.toNat:Int)).toNat.toUInt8=x by simp]at hR
    have HR:Hid (Calls Tryz.prog 220 #[.string E,.int .i32 (x.toNat:Int)] w5 fun e w'=>e=.returned (.int .i64 (Lib.indexByte E.data.toList x))/\w'=w5):=hR;have D1:=Lib.contains_iff_indexByte E.data.toList x;clear D0 E1 D9 hR hd hg E7 hx D2 D3;generalize hy:Lib.indexByte E.data.toList x=y at *;cases G0:E.data.toList.contains x with
    |false =>
     rw[G0]at D1;have L1:¬((0:Int)<=y):=of_decide_eq_false D1.symm;clear D1 hy
     go_wp2_with fail
     refine HR.out.mono ?_;rintro e w6⟨rfl,G5⟩;rw[G5];go_wp2
     go_roundw
     case rel=>exact⟨i+1,hp,E2.out,E4.out,HN.out.succ HX.out G0⟩
     case measure =>
      rw[G8.out,show w5.iterPos w.heap.size=i+1 by unfold World.iterPos;rw[E2.out]]
      omega
    |true =>
     rw[G0]at D1;have L2:(0:Int)<=y:=of_decide_eq_true D1.symm;clear D1 hy
     go_wp2_with fail
     refine HR.out.mono ?_;rintro e w6⟨rfl,G5⟩;rw[G5];go_wp2;go_ret;exact⟨by rw[Lib.indexAny_hit HN.out HX.out G0];rfl,E4.out⟩
  ·have E0:=fun ty=>Lib.run_next_end_at (P:=Tryz.prog) wr w.heap.size S i ty D2 hp
   have J2:i=S.data.toList.length:=by rw[<-j9];omega
   have J7:=a8 J2;clear J2;go_wp2;go_ret;exact⟨by rw[Lib.indexAny_none (by rw[<-J7.out];exact HN.out)];rfl,HB.out⟩
theorem b1Z:a8u:=fun s e w hs he=>by
 have h:=b4l (ba s) (ba e) w (by rw[I9];exact hs) (by rcases he with rfl|rfl<;>decide) (by rcases he with rfl|rfl<;>decide) (b7x (.inr he))
 rw[B5,B5]at h;exact h
theorem b5F:a0s:=b7X (b6M b1Z)
end
section
open Go.RowKit
def FJ8(S:ByteArray)(w:World)(a':Act)(w':World):Prop :=
 ∃(j:Nat) (x:UInt8) (u4 u6 u7 u8 u9 u10 u11 u12 u13 u14 u15 u16 u17 u18 u19 u20 u21 u22 u23 u24 u25 u26 u27 u28 u29 u30 u31 u32 u33 u34 u35 u36 u37 u38 u39 u40 u41 u42 u43 u44 u45 u46 u47 u48 u49 u50 u51 u52 u53 u54:Value),w'=w/\j<5/\S.data.toList[j]? = some x/\128<=x.toNat /\
  a'={ tmps:=#[.string S,.string ⟨#[85,84,70,45,56]⟩,undef,undef,u4,.int .i64 (j:Int),u6,u7,u8,u9,u10,u11,u12,u13,u14,u15,u16,u17,u18,u19,u20,u21,u22,u23,u24,u25,u26,u27,u28,u29,u30,u31,u32,u33,u34,u35,u36,u37,u38,u39,u40,u41,u42,u43,u44,u45,u46,u47,u48,u49,u50,u51,u52,u53,u54,undef,undef,undef,undef,undef,undef,undef,undef,undef,undef,undef,undef,undef,undef,undef,undef,undef,undef,undef,undef,undef,undef,undef,undef,undef,undef,undef,undef,undef,undef,undef,undef,undef,undef,undef,undef,undef,undef,undef,undef,undef,undef,undef,undef,undef,undef,undef,undef,undef,undef,undef,undef,undef,undef,undef,undef,undef,undef,undef,undef,undef,undef,undef,undef,undef,undef,undef,undef],defers:=[] }
theorem a9m{s:List UInt8}{j:Nat}{x:UInt8}(hj:j<5)(hx:s[j]? = some x)(h:128<=x.toNat):Lib.equalFold s [85,84,70,45,56]=false:=by
 match j,hj,s,hx with
 |0,_,a::s,hx =>
  simp only[G3,f5]at hx;subst hx;exact Lib.equalFold_no _ _ _ _ (a0L h (by decide))
 |1,_,a::b::s,hx =>
  simp only[C7,G3,f5]at hx;subst hx;rw[Lib.equalFold,Lib.equalFold_no _ _ _ _ (a0L h (by decide)),Bool.and_false]
 |2,_,a::b::c::s,hx =>
  simp only[C7,G3,f5]at hx;subst hx;rw[Lib.equalFold,Lib.equalFold,Lib.equalFold_no _ _ _ _ (a0L h (by decide)),Bool.and_false,Bool.and_false]
 |3,_,a::b::c::d::s,hx =>
  simp only[C7,G3,f5]at hx;subst hx;rw[Lib.equalFold,Lib.equalFold,Lib.equalFold,Lib.equalFold_no _ _ _ _ (a0L h (by decide)),Bool.and_false,Bool.and_false,Bool.and_false]
 |4,_,a::b::c::d::e::s,hx =>
  simp only[C7,G3,f5]at hx;subst hx;rw[Lib.equalFold,Lib.equalFold,Lib.equalFold,Lib.equalFold,Lib.equalFold_no _ _ _ _ (a0L h (by decide)),Bool.and_false,Bool.and_false,Bool.and_false,Bool.and_false]
theorem b9J{i:Nat}(h:i<5):∃y:UInt8,[(85:UInt8),84,70,45,56][i]? = some y/\y.toNat<128/\∀w,(Instr.index 9 (.string ⟨#[85,84,70,45,56]⟩) (.int .i64 (i:Int))).run Tryz.prog w=.ok (.int .u8 (y.toNat:Int)) w:=by
 match i,h with
 |0,_=>exact⟨85,rfl,by decide,fun w=>by kernel_rfl⟩
 |1,_=>exact⟨84,rfl,by decide,fun w=>by kernel_rfl⟩
 |2,_=>exact⟨70,rfl,by decide,fun w=>by kernel_rfl⟩
 |3,_=>exact⟨45,rfl,by decide,fun w=>by kernel_rfl⟩
 |4,_=>exact⟨56,rfl,by decide,fun w=>by kernel_rfl⟩
theorem b4Y(S:ByteArray)(J2:S.size<=2000000)(w:World)(hF:a4J w) :
 Calls Tryz.prog 153 #[.string S,.string ⟨#[85,84,70,45,56]⟩] w fun e w'=>e=.returned (.bool (Lib.equalFold S.data.toList [85,84,70,45,56]))/\Below w.heap.size w w':=by
 obtain⟨R,hR⟩ : ∃R,Lib.equalFold S.data.toList [85,84,70,45,56]=R:=⟨_,rfl⟩;rw[hR];have HR:=a8 hR;clear hR;obtain⟨M,hM⟩ : ∃M:Nat,min (S.size:Int) 5=(M:Int):=⟨min S.size 5,by omega⟩
 have L0:M<=S.size:=by omega
 have L1:M<=5:=by omega
 have J3:M=S.size∨M=5:=by omega
 go_enter Tryz.func153,Tryz.ntmps153;go_wp2;refine wp_scope_jumps 0 (FJ8 S w) (fun _ _=>0) rfl ?first ?pass
 case first =>
  go_wp2
  go_loopg [5] M (fun g s5 wx=>w=wx/\∃i:Nat,i+g=M/\s5=.int .i64 i/\Lib.equalFold (S.data.toList.drop i) ([85,84,70,45,56].drop i)=R)
  case atStart=>exact⟨rfl,0,by omega,rfl,HR.out⟩
  case round =>
   obtain⟨rfl,i,L2,rfl,E0⟩:=hrel;have HI:=a8 E0;clear E0 hM;cases gk with
   |zero =>
    have J4:¬((i:Int)<(M:Int)):=by omega
    obtain rfl:i=M:=by omega
    have hE:decide (S.size=5)=R:=by
     rw[<-HI.out,Lib.equalFold_end _ _ (by
      rcases J3 with h|h
      ·exact Or.inl (List.drop_eq_nil_of_le (by rw[<-j9];omega))
      ·exact Or.inr (List.drop_eq_nil_of_le (by show 5<=i;omega))),B6,B6,<-j9]
     exact decide_eq_decide.2 (by show S.size=5↔S.size-i=5-i;omega)
    have HE:=a8 hE;clear hE;by_cases G1:S.size=5
    ·have hb:((S.size:Int)==5)=true:=x8.2 (by omega)
     go_wp2;simp only[Exit.jump];go_ret;exact⟨by rw[<-HE.out];simp[G1],b8 _ _⟩
    ·have hb:((S.size:Int)==5)=false:=e9.2 (by omega)
     go_wp2;simp only[Exit.jump];go_ret;exact⟨by rw[<-HE.out];simp[G1],b8 _ _⟩
   |succ g =>
    have J4:(i:Int)<(M:Int):=by omega
    have G4:i<5:=by omega
    obtain⟨y,hy,J6,L3⟩:=b9J G4;have E5:i<S.data.toList.length:=by rw[<-j9];omega
    have J7:=G7 S E5;obtain⟨x,hx⟩ : ∃x,S.data.toList[i]=x:=⟨_,rfl⟩;rw[hx]at J7;have G5:S.data.toList[i]? = some x:=by rw[i5 E5,hx]
    have Hx:Hid (S.data.toList[i]? = some x/\[(85:UInt8),84,70,45,56][i]? = some y):=⟨G5,hy⟩;clear G5 hy hx E5;by_cases D9:128<=x.toNat
    ·obtain⟨z,hz,L4⟩:=a9Z x D9 y
     go_wp2
     go_step3
     exact⟨rfl,i,x,_,_,_,_,_,_,_,_,_,_,_,_,_,_,_,_,_,_,_,_,_,_,_,_,_,_,_,_,_,_,_,_,_,_,_,_,_,_,_,_,_,_,_,_,_,_,_,_,_,_,rfl,G4,Hx.out.1,D9,rfl⟩
    ·have E1:x.toNat<128:=by omega
     have L5:bits .or .u8 (x.toNat:Int) (y.toNat:Int)=((x.toNat ||| y.toNat:Nat):Int):=u8_or_nat _ _ (by omega) (by omega)
     have E6:¬((128:Int)<=((x.toNat ||| y.toNat:Nat):Int)):=by have:=Nat.or_lt_two_pow (n:=7) E1 J6;omega
     clear D9;go_wp2
     all_goals (try simp only[x8,e9,ne_eq]at *)
     all_goals first
      |(go_roundg g
        case measure=>omega
        case rel=>exact⟨rfl,i+1,by omega,by first|rfl|simp,by rw[<-HI.out,Lib.drop_at Hx.out.1,Lib.drop_at Hx.out.2,Lib.equalFold_yes _ _ _ _ (i6 (by omega))]⟩)
      |(simp only[Exit.jump]
        go_ret;refine⟨?_,b8 _ _⟩;rw[<-HI.out,Lib.drop_at Hx.out.1,Lib.drop_at Hx.out.2,Lib.equalFold_no _ _ _ _ (f8 (by omega))]
        rfl)
 case pass =>
  rintro a' w'⟨j,x,u4,u6,u7,u8,u9,u10,u11,u12,u13,u14,u15,u16,u17,u18,u19,u20,u21,u22,u23,u24,u25,u26,u27,u28,u29,u30,u31,u32,u33,u34,u35,u36,u37,u38,u39,u40,u41,u42,u43,u44,u45,u46,u47,u48,u49,u50,u51,u52,u53,u54,rfl,hj,hx,E7,rfl⟩;have L6:j<S.size:=by rw[j9];exact(z8.1 hx).1
  have L7:(j:Int)<=(S.size:Int):=by omega
  obtain⟨T,hT⟩ : ∃T,S.extract j S.size=T:=⟨_,rfl⟩;have E8:T.data.toList[0]? = some x:=by rw[<-hT,J5,j9,I1,List.getElem?_drop,Nat.add_zero];exact hx
  have G6:=(z8.1 E8).1;have G8:0<T.size:=by rw[j9];exact G6
  have G9:T.get! 0=x:=by
   have h1:T.data[0]? = some x:=by rw[<-A9];exact E8
   show T.data[0]! = x
   rw[getElem!_def,h1]
  have hd:=a8j T (by rw[G9];exact E7)
  have J8:=decode_le T 0;have J1:=fun ty=>run_next_any (P:=Tryz.prog) w' T 0 ty G8;generalize (Utf8.decode T 0).1=r at hd J8 J1;generalize 0+(Utf8.decode T 0).2=q at J1;have L8:(128:Int)<=(r:Int):=by omega
  clear E8 G6 G8 G9 hd;have D3:Hid (a4J w'):=hF
  have J9:false=R:=by
   rw[<-HR.out];exact(a9m hj hx E7).symm
  subst J9;clear hF hM hx E7 HR
  match j,hj with
  |0,_ =>
   have hX:(⟨#[85,84,70,45,56]⟩ : ByteArray).extract 0 5=⟨#[85,84,70,45,56]⟩:=G0 (by rw[J5];rfl)
   have E4:(⟨#[85,84,70,45,56]⟩ : ByteArray).extract 1 5=⟨#[84,70,45,56]⟩:=G0 (by rw[J5];rfl)
   have HD:Hid (∀w,Calls Tryz.prog 193 #[.string ⟨#[85,84,70,45,56]⟩] w fun e w'=>e=.returned (.tuple #[.int .i32 85,.int .i64 1])/\w'=w):=R5 ⟨#[85,84,70,45,56]⟩ 85 (by decide) (by rw[f9];simp) (fun w=>by kernel_rfl)
   have D0:Hid (Calls Tryz.prog 194 #[.int .i32 85] (w'.iter T q) fun e w1=>e=.returned (.int .i32 117)/\w1=w'.iter T q):=M5 85 117 (by omega) (by omega) (by omega) _ (P0 (p:=(85,117)) D3.out (by simp))
   have E2:Hid (Calls Tryz.prog 194 #[.int .i32 117] (w'.iter T q) fun e w1=>e=.returned (.int .i32 85)/\w1=w'.iter T q):=M5 117 85 (by omega) (by omega) (by omega) _ (P0 (p:=(117,85)) D3.out (by simp))
   have r1:((85:Int)==(r:Int))=false:=by rw[e9];omega
   have r2:(85:Int)<(r:Int):=by omega
   have r3:¬(r:Int)<128:=by omega
   have r4:(117:Int)<(r:Int):=by omega
   go_wp2;refine wp_loop_rounds 1 ?_;rw[rounds_succ]
   go_wp2_with fail
   refine(HD.out _).mono ?_;rintro e w1⟨rfl,D1⟩;rw[D1]
   go_wp2_with fail
   refine D0.out.mono ?_;rintro e w2⟨rfl,D2⟩;rw[D2];go_wp2;refine wp_loop_rounds 2 ?_;rw[rounds_succ]
   go_wp2_with fail
   refine E2.out.mono ?_;rintro e w3⟨rfl,E3⟩;rw[E3];go_wp2;rw[rounds_succ];go_wp2;simp only[Exit.jump];go_ret;exact⟨rfl,(b8 w'.heap.size w').alloc (c9 _) _⟩
  |1,_ =>
   have hX:(⟨#[85,84,70,45,56]⟩ : ByteArray).extract 1 5=⟨#[84,70,45,56]⟩:=G0 (by rw[J5];rfl)
   have E4:(⟨#[84,70,45,56]⟩ : ByteArray).extract 1 4=⟨#[70,45,56]⟩:=G0 (by rw[J5];rfl)
   have HD:Hid (∀w,Calls Tryz.prog 193 #[.string ⟨#[84,70,45,56]⟩] w fun e w'=>e=.returned (.tuple #[.int .i32 84,.int .i64 1])/\w'=w):=R5 ⟨#[84,70,45,56]⟩ 84 (by decide) (by rw[f9];simp) (fun w=>by kernel_rfl)
   have D0:Hid (Calls Tryz.prog 194 #[.int .i32 84] (w'.iter T q) fun e w1=>e=.returned (.int .i32 116)/\w1=w'.iter T q):=M5 84 116 (by omega) (by omega) (by omega) _ (P0 (p:=(84,116)) D3.out (by simp))
   have E2:Hid (Calls Tryz.prog 194 #[.int .i32 116] (w'.iter T q) fun e w1=>e=.returned (.int .i32 84)/\w1=w'.iter T q):=M5 116 84 (by omega) (by omega) (by omega) _ (P0 (p:=(116,84)) D3.out (by simp))
   have r1:((84:Int)==(r:Int))=false:=by rw[e9];omega
   have r2:(84:Int)<(r:Int):=by omega
   have r3:¬(r:Int)<128:=by omega
   have r4:(116:Int)<(r:Int):=by omega
   go_wp2;refine wp_loop_rounds 1 ?_;rw[rounds_succ]
   go_wp2_with fail
   refine(HD.out _).mono ?_;rintro e w1⟨rfl,D1⟩;rw[D1]
   go_wp2_with fail
   refine D0.out.mono ?_;rintro e w2⟨rfl,D2⟩;rw[D2];go_wp2;refine wp_loop_rounds 2 ?_;rw[rounds_succ]
   go_wp2_with fail
   refine E2.out.mono ?_;rintro e w3⟨rfl,E3⟩;rw[E3];go_wp2;rw[rounds_succ];go_wp2;simp only[Exit.jump];go_ret;exact⟨rfl,(b8 w'.heap.size w').alloc (c9 _) _⟩
  |2,_ =>
   have hX:(⟨#[85,84,70,45,56]⟩ : ByteArray).extract 2 5=⟨#[70,45,56]⟩:=G0 (by rw[J5];rfl)
   have E4:(⟨#[70,45,56]⟩ : ByteArray).extract 1 3=⟨#[45,56]⟩:=G0 (by rw[J5];rfl)
   have HD:Hid (∀w,Calls Tryz.prog 193 #[.string ⟨#[70,45,56]⟩] w fun e w'=>e=.returned (.tuple #[.int .i32 70,.int .i64 1])/\w'=w):=R5 ⟨#[70,45,56]⟩ 70 (by decide) (by rw[f9];simp) (fun w=>by kernel_rfl)
   have D0:Hid (Calls Tryz.prog 194 #[.int .i32 70] (w'.iter T q) fun e w1=>e=.returned (.int .i32 102)/\w1=w'.iter T q):=M5 70 102 (by omega) (by omega) (by omega) _ (P0 (p:=(70,102)) D3.out (by simp))
   have E2:Hid (Calls Tryz.prog 194 #[.int .i32 102] (w'.iter T q) fun e w1=>e=.returned (.int .i32 70)/\w1=w'.iter T q):=M5 102 70 (by omega) (by omega) (by omega) _ (P0 (p:=(102,70)) D3.out (by simp))
   have r1:((70:Int)==(r:Int))=false:=by rw[e9];omega
   have r2:(70:Int)<(r:Int):=by omega
   have r3:¬(r:Int)<128:=by omega
   have r4:(102:Int)<(r:Int):=by omega
   go_wp2;refine wp_loop_rounds 1 ?_;rw[rounds_succ]
   go_wp2_with fail
   refine(HD.out _).mono ?_;rintro e w1⟨rfl,D1⟩;rw[D1]
   go_wp2_with fail
   refine D0.out.mono ?_;rintro e w2⟨rfl,D2⟩;rw[D2];go_wp2;refine wp_loop_rounds 2 ?_;rw[rounds_succ]
   go_wp2_with fail
   refine E2.out.mono ?_;rintro e w3⟨rfl,E3⟩;rw[E3];go_wp2;rw[rounds_succ];go_wp2;simp only[Exit.jump];go_ret;exact⟨rfl,(b8 w'.heap.size w').alloc (c9 _) _⟩
  |3,_ =>
   have hX:(⟨#[85,84,70,45,56]⟩ : ByteArray).extract 3 5=⟨#[45,56]⟩:=G0 (by rw[J5];rfl)
   have E4:(⟨#[45,56]⟩ : ByteArray).extract 1 2=⟨#[56]⟩:=G0 (by rw[J5];rfl)
   have HD:Hid (∀w,Calls Tryz.prog 193 #[.string ⟨#[45,56]⟩] w fun e w'=>e=.returned (.tuple #[.int .i32 45,.int .i64 1])/\w'=w):=R5 ⟨#[45,56]⟩ 45 (by decide) (by rw[f9];simp) (fun w=>by kernel_rfl)
   have D0:Hid (Calls Tryz.prog 194 #[.int .i32 45] (w'.iter T q) fun e w1=>e=.returned (.int .i32 45)/\w1=w'.iter T q):=M5 45 45 (by omega) (by omega) (by omega) _ (P0 (p:=(45,45)) D3.out (by simp))
   have r1:((45:Int)==(r:Int))=false:=by rw[e9];omega
   have r2:(45:Int)<(r:Int):=by omega
   have r3:¬(r:Int)<128:=by omega
   go_wp2;refine wp_loop_rounds 1 ?_;rw[rounds_succ]
   go_wp2_with fail
   refine(HD.out _).mono ?_;rintro e w1⟨rfl,D1⟩;rw[D1]
   go_wp2_with fail
   refine D0.out.mono ?_;rintro e w2⟨rfl,D2⟩;rw[D2];go_wp2;refine wp_loop_rounds 2 ?_;rw[rounds_succ];go_wp2;simp only[Exit.jump];go_ret;exact⟨rfl,(b8 w'.heap.size w').alloc (c9 _) _⟩
  |4,_ =>
   have hX:(⟨#[85,84,70,45,56]⟩ : ByteArray).extract 4 5=⟨#[56]⟩:=G0 (by rw[J5];rfl)
   have E4:(⟨#[56]⟩ : ByteArray).extract 1 1=⟨#[]⟩:=G0 (by rw[J5];rfl)
   have HD:Hid (∀w,Calls Tryz.prog 193 #[.string ⟨#[56]⟩] w fun e w'=>e=.returned (.tuple #[.int .i32 56,.int .i64 1])/\w'=w):=R5 ⟨#[56]⟩ 56 (by decide) (by rw[f9];simp) (fun w=>by kernel_rfl)
   have D0:Hid (Calls Tryz.prog 194 #[.int .i32 56] (w'.iter T q) fun e w1=>e=.returned (.int .i32 56)/\w1=w'.iter T q):=M5 56 56 (by omega) (by omega) (by omega) _ (P0 (p:=(56,56)) D3.out (by simp))
   have r1:((56:Int)==(r:Int))=false:=by rw[e9];omega
   have r2:(56:Int)<(r:Int):=by omega
   have r3:¬(r:Int)<128:=by omega
   go_wp2;refine wp_loop_rounds 1 ?_;rw[rounds_succ]
   go_wp2_with fail
   refine(HD.out _).mono ?_;rintro e w1⟨rfl,D1⟩;rw[D1]
   go_wp2_with fail
   refine D0.out.mono ?_;rintro e w2⟨rfl,D2⟩;rw[D2];go_wp2;refine wp_loop_rounds 2 ?_;rw[rounds_succ];go_wp2;simp only[Exit.jump];go_ret;exact⟨rfl,(b8 w'.heap.size w').alloc (c9 _) _⟩
theorem b61:a3s:=fun v w hl hW=>by
 have HF:Hid (Calls Tryz.prog 153 #[.string (ba v),.string ⟨#[85,84,70,45,56]⟩] w fun e w'=>e=.returned (.bool (isE v))/\Below w.heap.size w w'):=by
  have h:=b4Y (ba v) (by rw[I9];omega) w hW.fold
  rw[B5]at h;exact h
 generalize isE v=Bz at *;generalize ba v=Z at *;clear hW;go_enter Tryz.func113,Tryz.ntmps113
 go_wp2_with fail
 refine HF.out.mono ?_;rintro e w1⟨rfl,hb⟩;have HB:=a8 hb;clear hb;go_wp2;go_ret;exact⟨rfl,HB.out⟩
theorem b4t(A:Option Addr)(c:Nat)(bs:List UInt8)(w:World)(hB : 8<=w.heap.size)(hW:Wd w)(hl:Q3 w w.heap.size A (P6 bs))(hc:bs.length<=c)(D0:c<=9223372036854775807)(hn:bs.length<=40000) :
 Calls Tryz.prog 11 #[.slice A bs.length c] w fun e w'=>b5w L1 bs w.heap.size e w'/\Below w.heap.size w w':=b4s b5F (b7r b61) A c bs w hB hW hl hc D0 hn
end
section
open Go.RowKit
noncomputable def X4(bs:List UInt8):Int ⊕ List Nd:=match a2Q L1 bs with
 |none => .inl 2
 |some l=>bif K6 l then(bif J6 l then .inr l else .inl 3)else .inl 2
theorem b1g{bs:List UInt8}{E:Int}(h:X4 bs=.inl E):E=2∨E=3:=by
 unfold X4 at h
 split at h
 ·exact .inl (Sum.inl.inj h).symm
 ·next l hl =>
  cases hf:K6 l<;>rw[hf]at h
  ·exact .inl (Sum.inl.inj h).symm
  ·cases hw:J6 l<;>rw[hw]at h
   ·exact .inr (Sum.inl.inj h).symm
   ·cases h
theorem a2R{bs l:_}(h:X4 bs=.inr l):a2Q L1 bs=some l/\K6 l=true/\J6 l=true:=by
 unfold X4 at h
 split at h
 ·cases h
 ·next l' hl =>
  cases hf:K6 l'<;>rw[hf]at h
  ·cases h
  ·cases hw:J6 l'<;>rw[hw]at h
   ·cases h
   ·obtain rfl:=Sum.inr.inj h
    exact⟨hl,hf,hw⟩
theorem a4v{bs l:_}(hn:bs.length<=40000)(h:a2Q L1 bs=some l):∀x∈l,Sm x:=by
 unfold a2Q at h
 split at h
 ·have D0:=a2I bs
  have D1:=a9x (C4 bs);exact(a6q _ (L1 (C4 bs)).length _ l (by omega) (b9Z _) (sm0 _) h).1
 ·cases h
def b1G(D:Int ⊕ List Nd)(B:Nat)(e:Ending)(w':World):Prop:=match D with
 | .inl E=>e=.returned (.tuple #[.pointer none,.int .i64 E])
 | .inr l => ∃d B',B<=B'/\e=.returned (.tuple #[.pointer (some ⟨d,0,none⟩),.int .i64 0])/\a0Q w' B' d l
theorem b92{bs:List UInt8}{B:Nat}{e:Ending}{w':World}(h:b5w L1 bs B e w'):b1G (X4 bs) B e w':=by
 unfold b5w at h;unfold X4
 split at h
 ·next hd=>rw[hd];exact h
 ·next l hd =>
  rw[hd];obtain⟨B',hB,⟨hf,he⟩|⟨hf,hw,he⟩|⟨hf,hw,d,he,D0⟩⟩:=h
  ·dsimp only;rw[hf];exact he
  ·dsimp only;rw[hf,hw];exact he
  ·dsimp only;rw[hf,hw];exact⟨d,B',hB,he,D0⟩
theorem a32(A:Option Addr)(c:Nat)(bs:List UInt8)(w:World)(hB : 8<=w.heap.size)(hW:Wd w)(hl:Q3 w w.heap.size A (P6 bs))(hc:bs.length<=c)(D0:c<=9223372036854775807)(hn:bs.length<=40000) :
 Calls Tryz.prog 11 #[.slice A bs.length c] w fun e w'=>b1G (X4 bs) w.heap.size e w'/\Below w.heap.size w w':=(b4t A c bs w hB hW hl hc D0 hn).mono fun e w' ⟨h1,h2⟩=>⟨b92 h1,h2⟩
end
end Go.Proofs.YtlgcigmolfhamaaGreatDoor
