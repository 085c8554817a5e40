/-
  strings.IndexRune at a valid letter beyond ASCII and a text of ASCII: -1. Conditions: the text is short.
  What decoding a letter beyond ASCII passes over: plain mathematics. Conditions: none.
  strings.IndexAny at a short text of any bytes. Conditions: the letters looked for are ASCII, two or more.
  strings.EqualFold at a text and "UTF-8", and parse.isEncoding. Conditions: unicode's own table of letters lies as it is laid; the text is not too long.
  What parse.Parse answers, by a text's document. Conditions: at most 40,000 bytes.
-/
import Derived.Test.YteinegfbpfhflaaGreatDoorM36
import Derived.Laws.Runes
import Derived.Lib.OthersKept
import Derived.Test.YteinegfbpfhflaaGreatDoorM35
namespace Go.Proofs.YteinegfbpfhflaaGreatDoor
set_option linter.unusedVariables false
set_option maxRecDepth 100000
set_option maxHeartbeats 8000000
section
open Go.RowKit Go.Shelf
theorem rC{c:UInt8}:∀s:List UInt8,(∀b∈s,b≠c)->Lib.indexByte s c = -1
 | [],_=>rfl
 |b::s,h=>by
  have ih:=rC s (fun x hx=>h x (List.mem_cons_of_mem _ hx));have hb:=h b (List.mem_cons_self ..);simp[Lib.indexByte,hb,ih]
theorem uD(S:ByteArray){m:Nat}(h:m<S.size)(w:World):(Instr.slice 9 (.string S) (some (.int .i64 ((m:Int)+1))) none none).run Tryz.prog w=.ok (.string (S.extract (m+1) S.size)) w:=by
 have h3:(0:Int)<=(m:Int)+1/\(m:Int)+1<=(S.size:Int):=by omega
 have h4:((m:Int)+1).toNat=m+1:=by omega
 have h5:(0:Int)<=(S.size:Int):=by omega
 simp[Instr.slice,run_underlying Tryz.underlying9,Instr.sliceBounds,Instr.sliceBound,asIntOf,h3,h4]
theorem EJ(S:ByteArray)(hS:∀(j:Nat) b,S.data.toList[j]? = some b->b.toNat<128)(hs:S.size<=100)(r:Int)(h:128<=r)(h1:r≠65533)(hb:eA r=true)(w:World):Calls Tryz.prog 191 #[.string S,.int .i32 r] w fun e w'=>e=.returned (.int .i64 (-1))/\Below w.heap.size w w':=by
 have HV:=aa (gD r w);rw[hb]at HV;have h2:(0:Int)<=r:=by omega
 have h3:¬r<128:=by omega
 have h4:(r==65533)=false:=ak.2 h1
 have hv:Utf8.valid r=true:=by
  unfold eA at hb;have:=of_decide_eq_true hb;unfold Utf8.valid;simp;omega
 obtain⟨k2,k4,kl⟩:=encode_facts r hv h;obtain⟨T,hT⟩ : ∃T,Utf8.encode r=T:=⟨_,rfl⟩;rw[hT]at k2 k4;have HT:=aa hT
 have hcv:(convert 21 9 (.int .i32 r)).run Tryz.prog w=.ok (.string T) w:=by
  rw[<-hT];exact run_convert_int_string w _ _ _ _ rfl Tryz.underlying9
 obtain⟨m,hm⟩ : ∃m,T.size=m+1:=⟨T.size-1,by omega⟩
 have hml:m<T.data.toList.length:=by rw[<-aF];omega
 obtain⟨c,hc⟩ : ∃c,T.data.toList[m]=c:=⟨_,rfl⟩
 have hc128:128<=c.toNat:=by
  subst hT;have:=kl (by omega)
  have e1:(Utf8.encode r)[(Utf8.encode r).size-1]'(by omega)=c:=by
   rw[<-hc];have hq:(Utf8.encode r).size-1=m:=by omega
   simp only[hq]
   rfl
  rw[e1]at this;exact this
 have hix:=cz T hml;rw[hc]at hix;clear hb h h1 hv kl hT hml hc;have HA:=aa hS;have hsub:((T.size:Nat):Int)-1=(m:Int):=by omega
 clear hS;by_cases hlt:m<S.size
 ·have hSl:m<S.data.toList.length:=by rw[<-aF];omega
  have hiy:=cz S hSl;obtain⟨x,hx⟩ : ∃x,S.data.toList[m]=x:=⟨_,rfl⟩;rw[hx]at hiy;have hx128:x.toNat<128:=HA.out m x (by rw[aw hSl,hx])
  have hne:((x.toNat:Int) != (c.toNat:Int))=true:=by simp;omega
  have hlz:(m:Int)<(S.size:Int):=by omega
  have hlz1:(m:Int)+1<=(S.size:Int):=by omega
  have hwr:IntKind.i64.wrap ((m:Int)+1)=(m:Int)+1:=by rw[IntKind.wrap_i64];omega
  have HIB:Hid (∀w1,Calls Tryz.prog 205 #[.string (S.extract (m+1) S.size),.int .u8 (c.toNat:Int)] w1 fun e w'=>e=.returned (.int .i64 (-1))/\w'=w1):=fun w1=>by
   have h:=Any.strings_IndexByte (P:=Tryz.prog) (ρ:=Gu) { yL with } (S.extract (m+1) S.size) (c.toNat:Int) w1;rw[show((c.toNat:Int)).toNat.toUInt8=c by simp]at h
   rw[rC _ (fun b hb e=>by
    rw[cS,aF,cL]at hb;obtain⟨j,hj⟩:=List.getElem?_of_mem (List.mem_of_mem_drop hb);have:=HA.out j b hj;subst e;omega)]at h
   exact h
  have hsf:=uD S hlt;obtain⟨X,hX⟩ : ∃X,S.extract (m+1) S.size=X:=⟨_,rfl⟩;rw[hX]at HIB hsf;clear hx hSl hX;go_enter Tryz.func191,Tryz.ntmps191
  go_wp2_with fail
  refine HV.out.mono ?_;rintro e w1⟨rfl,hw⟩;subst hw;go_wp2;refine wp_scope_jumps 1 (fun _ _=>False) (fun _ _=>0) rfl ?first ?pass
  case pass=>rintro a' w' ⟨⟩
  case first =>
  go_upto_region 6 with fail
  refine wp_loop_rounds 1 ?_;rw[rounds_succ]
  go_wp2_with fail
  refine wp_scope_jumps 0 (fun _ _=>False) (fun _ _=>0) rfl ?f2 ?p2
  case p2=>rintro a' w' ⟨⟩
  case f2 =>
  go_wp2_with fail
  go_quiet (fail)
  go_wp2_with fail
  go_quiet ((go_at_call 205;exact(HIB.out _).mono (fun e w'' h=>⟨h.1,_,h.2⟩)))
  go_wp2;dsimp +zetaDelta only [Exit.jump,Exit.inBlock,Exit.then];go_ret;exact⟨rfl,ay (ae _ _) _⟩
 ·have hlz:¬(m:Int)<(S.size:Int):=by omega
  go_enter Tryz.func191,Tryz.ntmps191
  go_wp2_with fail
  refine HV.out.mono ?_;rintro e w1⟨rfl,hw⟩;subst hw;go_wp2;refine wp_scope_jumps 1 (fun _ _=>False) (fun _ _=>0) rfl ?first ?pass
  case pass=>rintro a' w' ⟨⟩
  case first =>
  go_upto_region 6 with fail
  refine wp_loop_rounds 1 ?_;rw[rounds_succ];go_wp2;dsimp +zetaDelta only [Exit.jump,Exit.inBlock,Exit.then];go_ret;exact⟨rfl,ae _ _⟩
end
section
open Go.RowKit Go.Shelf
theorem xW(s:ByteArray)(i:Nat)(hi:i<s.size)(h0:128<=(s.get! (i+0)).toNat):128<=(Utf8.decode s i).1/\1<=(Utf8.decode s i).2/\(Utf8.decode s i).2<=4/\i+(Utf8.decode s i).2<=s.size/\(1<(Utf8.decode s i).2->128<=(s.get! (i+1)).toNat)/\(2<(Utf8.decode s i).2->128<=(s.get! (i+2)).toNat)/\(3<(Utf8.decode s i).2->128<=(s.get! (i+3)).toNat):=by
 have hb:∀k,(s.get! (i+k)).toNat<256:=fun k=>(s.get! (i+k)).toNat_lt;have b0:=hb 0;have b1:=hb 1;have b2:=hb 2;have b3:=hb 3
 clear hb;simp only[Utf8.decode];obtain⟨a0,e0⟩ : ∃a,(s.get! (i+0)).toNat=a:=⟨_,rfl⟩;obtain⟨a1,e1⟩ : ∃a,(s.get! (i+1)).toNat=a:=⟨_,rfl⟩;obtain⟨a2,e2⟩ : ∃a,(s.get! (i+2)).toNat=a:=⟨_,rfl⟩;obtain⟨a3,e3⟩ : ∃a,(s.get! (i+3)).toNat=a:=⟨_,rfl⟩;simp only[e0,e1,e2,e3]at *;obtain⟨n,hn⟩ : ∃n,s.size=n:=⟨_,rfl⟩;rw[hn]at hi ⊢
 repeat' split
 all_goals simp only[aO,bj,bc,Utf8.runeError,ge_iff_le]at *
 all_goals omega
end
section
open Go.RowKit Go.Shelf
theorem Cn(S:ByteArray)(hS:∀(j:Nat) b,S.data.toList[j]? = some b->b.toNat<128)(hs:S.size<=100)(r:Nat)(h:128<=r)(w:World):Calls Tryz.prog 191 #[.string S,.int .i32 (r:Int)] w fun e w'=>e=.returned (.int .i64 (-1))/\Below w.heap.size w w':=by
 by_cases h1:r=65533
 ·subst h1;exact Cm S hS w
 ·cases hb:eA (r:Int)with
  |false=>exact(Co S r (by omega) (by omega) hb w).mono fun e w' ⟨a,b⟩=>⟨a,b ▸ ae _ _⟩
  |true=>exact EJ S hS hs r (by omega) (by omega) hb w
theorem C9(S:ByteArray)(k:Nat){x:UInt8}(h:S.data.toList[k]? = some x):S.get! k=x:=by
 have h1:S.data[k]? = some x:=by rw[<-bi];exact h
 show S.data[k]! = x
 rw[getElem!_def,h1]
theorem GJ{e:List UInt8}(he:∀(j:Nat) b,e[j]? = some b->b.toNat<128){b:UInt8}(hb:128<=b.toNat):e.contains b=false:=by
 cases h:e.contains b with
 |false=>rfl
 |true =>
  rw[List.contains_iff_mem]at h;obtain⟨j,hj⟩:=List.getElem?_of_mem h;have:=he j b hj;omega
theorem zQ(S E:ByteArray)(w:World)(h8:S.size<=8)(h2:2<=E.size)(h6:E.size<=100)(hE:∀(j:Nat) b,E.data.toList[j]? = some b->b.toNat<128):Calls Tryz.prog 169 #[.string S,.string E] w fun r w'=>r=.returned (.int .i64 (Lib.indexAny S.data.toList E.data.toList))/\Below w.heap.size w w':=by
 have hemp:(E.toList == [])=false:=by
  rw[aq,ak];intro h;rw[aF,h]at h2;simp at h2
 have hemp2:E.toList.isEmpty=false:=by simpa using hemp
 have hn1:((E.size:Int)==1)=false:=ak.2 (by omega)
 have h8z:¬(8:Int)<(S.size:Int):=by omega
 have HA:=aa hE;clear hE;go_enter Tryz.func169,Tryz.ntmps169;go_wp2
 go_loopw [9,10] (fun _ _ wr => ∃i:Nat,i<=S.size/\wr.heap[w.heap.size]? = some (.stringIter S i)/\Below w.heap.size w wr/\Lib.NoAny S.data.toList E.data.toList i) (fun _ _ wr=>S.size-wr.iterPos w.heap.size)
 case atStart=>exact⟨0,aM _,by simpa using World.iter_heap w S 0,(ae _ w).alloc (af _) _,Lib.NoAny.zero _ _⟩
 case round =>
  obtain⟨i,hi,hit,hb,hno⟩:=hrel;have HB:=aa hb;have HN:=aa hno;have hsz:w.heap.size<wr.heap.size:=(Array.getElem?_eq_some_iff.1 hit).1;have hip:wr.iterPos w.heap.size=i:=by unfold World.iterPos;rw[hit]
  have HIP:=aa hip;clear hb hno hip;by_cases hp:i<S.size
  ·have hil:i<S.data.toList.length:=by rw[<-aF];exact hp
   obtain⟨x,hx⟩ : ∃x,S.data.toList[i]=x:=⟨_,rfl⟩;have hxl:S.data.toList[i]? = some x:=by rw[aw hil,hx]
   have hg:S.get! (i+0)=x:=C9 S i hxl;have hnx:=fun ty=>Lib.run_next_any_at (P:=Tryz.prog) wr w.heap.size S i ty hit hp;have HX:=aa hxl;by_cases hbig:128<=x.toNat
   ·obtain⟨d1,d2,d3,d4,d5,d6,d7⟩:=xW S i hp (by rw[hg];exact hbig)
    have hit2:=Lib.iterAt_heap wr w.heap.size S i (i+(Utf8.decode S i).2) hit;have hb2:=Lib.below_iterAt HB.out (k:=w.heap.size) (af _) S (i+(Utf8.decode S i).2)
    have hno:Lib.NoAny S.data.toList E.data.toList (i+(Utf8.decode S i).2):=fun j b hj hbj=>by
     rcases Nat.lt_or_ge j i with h|h
     ·exact HN.out j b h hbj
     ·refine GJ HA.out ?_
      have hgj:=C9 S j hbj;rcases(by omega:j=i∨j=i+1∨j=i+2∨j=i+3)with e|e|e|e
      ·subst e;rw[Nat.add_zero]at hg;rw[<-hgj,hg];exact hbig
      ·subst e;rw[<-hgj];exact d5 (by omega)
      ·subst e;rw[<-hgj];exact d6 (by omega)
      ·subst e;rw[<-hgj];exact d7 (by omega)
    generalize (Utf8.decode S i).1=r at *;generalize (Utf8.decode S i).2=q at *;have HNO:=aa hno;have HIT:=aa hit2;have HBB:=aa hb2;obtain⟨w5,hw5⟩ : ∃w5,wr.iterAt w.heap.size S (i+q)=w5:=⟨_,rfl⟩;rw[hw5]at HIT HBB;have HR:=aa (Cn E HA.out h6 r d1 w5);have hnx2:∀ty,(Instr.next (.pointer (some ⟨w.heap.size,0,none⟩)) true ty).run Tryz.prog wr=.ok (.tuple #[.bool true,.int .i64 i,.int .i32 r]) w5:=fun ty=>by rw[hnx ty,hw5]
    clear hnx hno hit2 hb2 hw5 d5 d6 d7 hg hxl hx hit
    go_wp2_with fail
    refine HR.out.mono ?_;rintro e w6⟨rfl,hb6⟩;have hlt5:w.heap.size<w5.heap.size:=(Array.getElem?_eq_some_iff.1 HIT.out).1;have HIT6:=aa ((hb6.block w.heap.size hlt5).trans HIT.out);have HB6:=aa (HBB.out.trans (hb6.mono (be hlt5)));clear hb6;go_wp2
    go_roundw
    case rel=>exact⟨i+q,d4,HIT6.out,HB6.out,HNO.out⟩
    case measure =>
     rw[HIP.out,show w6.iterPos w.heap.size=i+q by unfold World.iterPos;rw[HIT6.out]]
     omega
   ·have hx128:x.toNat<128:=by omega
    have hd:Utf8.decode S i=(x.toNat,1):=by
     unfold Utf8.decode;simp only[hg];rw[av (by omega)]
    rw[hd]at hnx;have hit2:=Lib.iterAt_heap wr w.heap.size S i (i+1) hit;have hb2:=Lib.below_iterAt HB.out (k:=w.heap.size) (af _) S (i+1);obtain⟨w5,hw5⟩ : ∃w5,wr.iterAt w.heap.size S (i+1)=w5:=⟨_,rfl⟩;dsimp only at hnx;simp only[hw5]at hnx;rw[hw5]at hit2 hb2;have HIT:=aa hit2;have HBB:=aa hb2;have hR:=Any.strings_IndexRune_ascii (P:=Tryz.prog) (ρ:=Gu) { yL with } E (x.toNat:Int) w5 (by omega) (by omega)
    rw[show((x.toNat:Int)).toNat.toUInt8=x by simp]at hR
    have HR:Hid (Calls Tryz.prog 191 #[.string E,.int .i32 (x.toNat:Int)] w5 fun e w'=>e=.returned (.int .i64 (Lib.indexByte E.data.toList x))/\w'=w5):=hR;have hcon:=Lib.contains_iff_indexByte E.data.toList x;clear hit2 hb2 hw5 hR hd hg hxl hx hit hbig;generalize hy:Lib.indexByte E.data.toList x=y at *;cases hin:E.data.toList.contains x with
    |false =>
     rw[hin]at hcon;have hlt:¬((0:Int)<=y):=of_decide_eq_false hcon.symm;clear hcon hy
     go_wp2_with fail
     refine HR.out.mono ?_;rintro e w6⟨rfl,hw6⟩;rw[hw6];go_wp2
     go_roundw
     case rel=>exact⟨i+1,hp,HIT.out,HBB.out,HN.out.succ HX.out hin⟩
     case measure =>
      rw[HIP.out,show w5.iterPos w.heap.size=i+1 by unfold World.iterPos;rw[HIT.out]]
      omega
    |true =>
     rw[hin]at hcon;have hge:(0:Int)<=y:=of_decide_eq_true hcon.symm;clear hcon hy
     go_wp2_with fail
     refine HR.out.mono ?_;rintro e w6⟨rfl,hw6⟩;rw[hw6];go_wp2;go_ret;exact⟨by rw[Lib.indexAny_hit HN.out HX.out hin];rfl,HBB.out⟩
  ·have hnx:=fun ty=>Lib.run_next_end_at (P:=Tryz.prog) wr w.heap.size S i ty hit hp
   have hie:i=S.data.toList.length:=by rw[<-aF];omega
   have HIE:=aa hie;clear hie;go_wp2;go_ret;exact⟨by rw[Lib.indexAny_none (by rw[<-HIE.out];exact HN.out)];rfl,HB.out⟩
theorem xc:sd:=fun s e w hs he=>by
 have h:=zQ (ba s) (ba e) w (by rw[cV];exact hs) (by rcases he with rfl|rfl<;>decide) (by rcases he with rfl|rfl<;>decide) (DQ (.inr he))
 rw[bp,bp]at h;exact h
theorem BZ:gm:=Ek (C6 xc)
end
section
open Go.RowKit
def Jr(S:ByteArray)(w:World)(a':Act)(w':World):Prop :=
 ∃(j:Nat) (x:UInt8) (u4 u6 u7 u8 u9 u10 u11 u12 u13 u14 u15 u16 u17 u18 u19 u20 u21 u22 u23 u24 u25 u26 u27 u28 u29 u30 u31 u32 u33 u34 u35 u36 u37 u38 u39 u40 u41 u42 u43 u44 u45 u46 u47 u48 u49 u50 u51 u52 u53 u54:Value),w'=w/\j<5/\S.data.toList[j]? = some x/\128<=x.toNat /\
  a'={ tmps:=#[.string S,.string ⟨#[85,84,70,45,56]⟩,undef,undef,u4,.int .i64 (j:Int),u6,u7,u8,u9,u10,u11,u12,u13,u14,u15,u16,u17,u18,u19,u20,u21,u22,u23,u24,u25,u26,u27,u28,u29,u30,u31,u32,u33,u34,u35,u36,u37,u38,u39,u40,u41,u42,u43,u44,u45,u46,u47,u48,u49,u50,u51,u52,u53,u54,undef,undef,undef,undef,undef,undef,undef,undef,undef,undef,undef,undef,undef,undef,undef,undef,undef,undef,undef,undef,undef,undef,undef,undef,undef,undef,undef,undef,undef,undef,undef,undef,undef,undef,undef,undef,undef,undef,undef,undef,undef,undef,undef,undef,undef,undef,undef,undef,undef,undef,undef,undef,undef,undef,undef,undef,undef,undef,undef,undef,undef,undef,undef,undef,undef,undef,undef,undef],defers:=[] }
theorem tv{s:List UInt8}{j:Nat}{x:UInt8}(hj:j<5)(hx:s[j]? = some x)(h:128<=x.toNat):Lib.equalFold s [85,84,70,45,56]=false:=by
 match j,hj,s,hx with
 |0,_,a::s,hx =>
  simp only[cw,al]at hx;subst hx;exact Lib.equalFold_no _ _ _ _ (gJ h (by decide))
 |1,_,a::b::s,hx =>
  simp only[bH,cw,al]at hx;subst hx;rw[Lib.equalFold,Lib.equalFold_no _ _ _ _ (gJ h (by decide)),Bool.and_false]
 |2,_,a::b::c::s,hx =>
  simp only[bH,cw,al]at hx;subst hx;rw[Lib.equalFold,Lib.equalFold,Lib.equalFold_no _ _ _ _ (gJ h (by decide)),Bool.and_false,Bool.and_false]
 |3,_,a::b::c::d::s,hx =>
  simp only[bH,cw,al]at hx;subst hx;rw[Lib.equalFold,Lib.equalFold,Lib.equalFold,Lib.equalFold_no _ _ _ _ (gJ h (by decide)),Bool.and_false,Bool.and_false,Bool.and_false]
 |4,_,a::b::c::d::e::s,hx =>
  simp only[bH,cw,al]at hx;subst hx;rw[Lib.equalFold,Lib.equalFold,Lib.equalFold,Lib.equalFold,Lib.equalFold_no _ _ _ _ (gJ h (by decide)),Bool.and_false,Bool.and_false,Bool.and_false,Bool.and_false]
theorem Gg{i:Nat}(h:i<5):∃y:UInt8,[(85:UInt8),84,70,45,56][i]? = some y/\y.toNat<128/\∀w,(Instr.index 9 (.string ⟨#[85,84,70,45,56]⟩) (.int .i64 (i:Int))).run Tryz.prog w=.ok (.int .u8 (y.toNat:Int)) w:=by
 match i,h with
 |0,_=>exact⟨85,rfl,by decide,fun w=>by kernel_rfl⟩
 |1,_=>exact⟨84,rfl,by decide,fun w=>by kernel_rfl⟩
 |2,_=>exact⟨70,rfl,by decide,fun w=>by kernel_rfl⟩
 |3,_=>exact⟨45,rfl,by decide,fun w=>by kernel_rfl⟩
 |4,_=>exact⟨56,rfl,by decide,fun w=>by kernel_rfl⟩
theorem AN(S:ByteArray)(hlen:S.size<=2000000)(w:World)(hF:mU w) :
 Calls Tryz.prog 125 #[.string S,.string ⟨#[85,84,70,45,56]⟩] w fun e w'=>e=.returned (.bool (Lib.equalFold S.data.toList [85,84,70,45,56]))/\Below w.heap.size w w':=by
 obtain⟨R,hR⟩ : ∃R,Lib.equalFold S.data.toList [85,84,70,45,56]=R:=⟨_,rfl⟩;rw[hR];have HR:=aa hR;clear hR;obtain⟨M,hM⟩ : ∃M:Nat,min (S.size:Int) 5=(M:Int):=⟨min S.size 5,by omega⟩
 have hMs:M<=S.size:=by omega
 have hMt:M<=5:=by omega
 have hMe:M=S.size∨M=5:=by omega
 go_enter Tryz.func125,Tryz.ntmps125;go_wp2;refine wp_scope_jumps 0 (Jr S w) (fun _ _=>0) rfl ?first ?pass
 case first =>
  go_wp2
  go_loopg [5] M (fun g s5 wx=>w=wx/\∃i:Nat,i+g=M/\s5=.int .i64 i/\Lib.equalFold (S.data.toList.drop i) ([85,84,70,45,56].drop i)=R)
  case atStart=>exact⟨rfl,0,by omega,rfl,HR.out⟩
  case round =>
   obtain⟨rfl,i,hig,rfl,hinv⟩:=hrel;have HI:=aa hinv;clear hinv hM;cases gk with
   |zero =>
    have hiM:¬((i:Int)<(M:Int)):=by omega
    obtain rfl:i=M:=by omega
    have hE:decide (S.size=5)=R:=by
     rw[<-HI.out,Lib.equalFold_end _ _ (by
      rcases hMe with h|h
      ·exact Or.inl (List.drop_eq_nil_of_le (by rw[<-aF];omega))
      ·exact Or.inr (List.drop_eq_nil_of_le (by show 5<=i;omega))),bq,bq,<-aF]
     exact decide_eq_decide.2 (by show S.size=5↔S.size-i=5-i;omega)
    have HE:=aa hE;clear hE;by_cases hst:S.size=5
    ·have hb:((S.size:Int)==5)=true:=bc.2 (by omega)
     go_wp2;simp only[Exit.jump];go_ret;exact⟨by rw[<-HE.out];simp[hst],ae _ _⟩
    ·have hb:((S.size:Int)==5)=false:=ak.2 (by omega)
     go_wp2;simp only[Exit.jump];go_ret;exact⟨by rw[<-HE.out];simp[hst],ae _ _⟩
   |succ g =>
    have hiM:(i:Int)<(M:Int):=by omega
    have hi3:i<5:=by omega
    obtain⟨y,hy,hy1,hiy⟩:=Gg hi3;have hil:i<S.data.toList.length:=by rw[<-aF];omega
    have hix:=cz S hil;obtain⟨x,hx⟩ : ∃x,S.data.toList[i]=x:=⟨_,rfl⟩;rw[hx]at hix;have hxl:S.data.toList[i]? = some x:=by rw[aw hil,hx]
    have Hx:Hid (S.data.toList[i]? = some x/\[(85:UInt8),84,70,45,56][i]? = some y):=⟨hxl,hy⟩;clear hxl hy hx hil;by_cases hbig:128<=x.toNat
    ·obtain⟨z,hz,hz1⟩:=ul x hbig y
     go_wp2
     go_step3
     exact⟨rfl,i,x,_,_,_,_,_,_,_,_,_,_,_,_,_,_,_,_,_,_,_,_,_,_,_,_,_,_,_,_,_,_,_,_,_,_,_,_,_,_,_,_,_,_,_,_,_,_,_,_,_,_,rfl,hi3,Hx.out.1,hbig,rfl⟩
    ·have hx128:x.toNat<128:=by omega
     have hor:bits .or .u8 (x.toNat:Int) (y.toNat:Int)=((x.toNat ||| y.toNat:Nat):Int):=u8_or_nat _ _ (by omega) (by omega)
     have hor128:¬((128:Int)<=((x.toNat ||| y.toNat:Nat):Int)):=by have:=Nat.or_lt_two_pow (n:=7) hx128 hy1;omega
     clear hbig;go_wp2
     all_goals (try simp only[bc,ak,ne_eq]at *)
     all_goals first
      |(go_roundg g
        case measure=>omega
        case rel=>exact⟨rfl,i+1,by omega,by first|rfl|simp,by rw[<-HI.out,Lib.drop_at Hx.out.1,Lib.drop_at Hx.out.2,Lib.equalFold_yes _ _ _ _ (ax (by omega))]⟩)
      |(simp only[Exit.jump]
        go_ret;refine⟨?_,ae _ _⟩;rw[<-HI.out,Lib.drop_at Hx.out.1,Lib.drop_at Hx.out.2,Lib.equalFold_no _ _ _ _ (ap (by omega))]
        rfl)
 case pass =>
  rintro a' w'⟨j,x,u4,u6,u7,u8,u9,u10,u11,u12,u13,u14,u15,u16,u17,u18,u19,u20,u21,u22,u23,u24,u25,u26,u27,u28,u29,u30,u31,u32,u33,u34,u35,u36,u37,u38,u39,u40,u41,u42,u43,u44,u45,u46,u47,u48,u49,u50,u51,u52,u53,u54,rfl,hj,hx,hx1,rfl⟩;have hjs:j<S.size:=by rw[aF];exact(bh.1 hx).1
  have hjz:(j:Int)<=(S.size:Int):=by omega
  obtain⟨T,hT⟩ : ∃T,S.extract j S.size=T:=⟨_,rfl⟩;have hTl:T.data.toList[0]? = some x:=by rw[<-hT,cS,aF,cL,List.getElem?_drop,Nat.add_zero];exact hx
  have hT0:=(bh.1 hTl).1;have hTs:0<T.size:=by rw[aF];exact hT0
  have hTg:T.get! 0=x:=by
   have h1:T.data[0]? = some x:=by rw[<-bi];exact hTl
   show T.data[0]! = x
   rw[getElem!_def,h1]
  have hd:=rT T (by rw[hTg];exact hx1)
  have hd2:=decode_le T 0;have hnx:=fun ty=>run_next_any (P:=Tryz.prog) w' T 0 ty hTs;generalize (Utf8.decode T 0).1=r at hd hd2 hnx;generalize 0+(Utf8.decode T 0).2=q at hnx;have hr1:(128:Int)<=(r:Int):=by omega
  clear hTl hT0 hTs hTg hd;have hF1:Hid (mU w'):=hF
  have hRf:false=R:=by
   rw[<-HR.out];exact(tv hj hx hx1).symm
  subst hRf;clear hF hM hx hx1 HR
  match j,hj with
  |0,_ =>
   have hX:(⟨#[85,84,70,45,56]⟩ : ByteArray).extract 0 5=⟨#[85,84,70,45,56]⟩:=cp (by rw[cS];rfl)
   have hX2:(⟨#[85,84,70,45,56]⟩ : ByteArray).extract 1 5=⟨#[84,70,45,56]⟩:=cp (by rw[cS];rfl)
   have HD:Hid (∀w,Calls Tryz.prog 164 #[.string ⟨#[85,84,70,45,56]⟩] w fun e w'=>e=.returned (.tuple #[.int .i32 85,.int .i64 1])/\w'=w):=ew ⟨#[85,84,70,45,56]⟩ 85 (by decide) (by rw[aq];simp) (fun w=>by kernel_rfl)
   have HS1:Hid (Calls Tryz.prog 165 #[.int .i32 85] (w'.iter T q) fun e w1=>e=.returned (.int .i32 117)/\w1=w'.iter T q):=dB 85 117 (by omega) (by omega) (by omega) _ (dV (p:=(85,117)) hF1.out (by simp))
   have HS2:Hid (Calls Tryz.prog 165 #[.int .i32 117] (w'.iter T q) fun e w1=>e=.returned (.int .i32 85)/\w1=w'.iter T q):=dB 117 85 (by omega) (by omega) (by omega) _ (dV (p:=(117,85)) hF1.out (by simp))
   have r1:((85:Int)==(r:Int))=false:=by rw[ak];omega
   have r2:(85:Int)<(r:Int):=by omega
   have r3:¬(r:Int)<128:=by omega
   have r4:(117:Int)<(r:Int):=by omega
   go_wp2;refine wp_loop_rounds 1 ?_;rw[rounds_succ]
   go_wp2_with fail
   refine(HD.out _).mono ?_;rintro e w1⟨rfl,hw1⟩;rw[hw1]
   go_wp2_with fail
   refine HS1.out.mono ?_;rintro e w2⟨rfl,hw2⟩;rw[hw2];go_wp2;refine wp_loop_rounds 2 ?_;rw[rounds_succ]
   go_wp2_with fail
   refine HS2.out.mono ?_;rintro e w3⟨rfl,hw3⟩;rw[hw3];go_wp2;rw[rounds_succ];go_wp2;simp only[Exit.jump];go_ret;exact⟨rfl,(ae w'.heap.size w').alloc (af _) _⟩
  |1,_ =>
   have hX:(⟨#[85,84,70,45,56]⟩ : ByteArray).extract 1 5=⟨#[84,70,45,56]⟩:=cp (by rw[cS];rfl)
   have hX2:(⟨#[84,70,45,56]⟩ : ByteArray).extract 1 4=⟨#[70,45,56]⟩:=cp (by rw[cS];rfl)
   have HD:Hid (∀w,Calls Tryz.prog 164 #[.string ⟨#[84,70,45,56]⟩] w fun e w'=>e=.returned (.tuple #[.int .i32 84,.int .i64 1])/\w'=w):=ew ⟨#[84,70,45,56]⟩ 84 (by decide) (by rw[aq];simp) (fun w=>by kernel_rfl)
   have HS1:Hid (Calls Tryz.prog 165 #[.int .i32 84] (w'.iter T q) fun e w1=>e=.returned (.int .i32 116)/\w1=w'.iter T q):=dB 84 116 (by omega) (by omega) (by omega) _ (dV (p:=(84,116)) hF1.out (by simp))
   have HS2:Hid (Calls Tryz.prog 165 #[.int .i32 116] (w'.iter T q) fun e w1=>e=.returned (.int .i32 84)/\w1=w'.iter T q):=dB 116 84 (by omega) (by omega) (by omega) _ (dV (p:=(116,84)) hF1.out (by simp))
   have r1:((84:Int)==(r:Int))=false:=by rw[ak];omega
   have r2:(84:Int)<(r:Int):=by omega
   have r3:¬(r:Int)<128:=by omega
   have r4:(116:Int)<(r:Int):=by omega
   go_wp2;refine wp_loop_rounds 1 ?_;rw[rounds_succ]
   go_wp2_with fail
   refine(HD.out _).mono ?_;rintro e w1⟨rfl,hw1⟩;rw[hw1]
   go_wp2_with fail
   refine HS1.out.mono ?_;rintro e w2⟨rfl,hw2⟩;rw[hw2];go_wp2;refine wp_loop_rounds 2 ?_;rw[rounds_succ]
   go_wp2_with fail
   refine HS2.out.mono ?_;rintro e w3⟨rfl,hw3⟩;rw[hw3];go_wp2;rw[rounds_succ];go_wp2;simp only[Exit.jump];go_ret;exact⟨rfl,(ae w'.heap.size w').alloc (af _) _⟩
  |2,_ =>
   have hX:(⟨#[85,84,70,45,56]⟩ : ByteArray).extract 2 5=⟨#[70,45,56]⟩:=cp (by rw[cS];rfl)
   have hX2:(⟨#[70,45,56]⟩ : ByteArray).extract 1 3=⟨#[45,56]⟩:=cp (by rw[cS];rfl)
   have HD:Hid (∀w,Calls Tryz.prog 164 #[.string ⟨#[70,45,56]⟩] w fun e w'=>e=.returned (.tuple #[.int .i32 70,.int .i64 1])/\w'=w):=ew ⟨#[70,45,56]⟩ 70 (by decide) (by rw[aq];simp) (fun w=>by kernel_rfl)
   have HS1:Hid (Calls Tryz.prog 165 #[.int .i32 70] (w'.iter T q) fun e w1=>e=.returned (.int .i32 102)/\w1=w'.iter T q):=dB 70 102 (by omega) (by omega) (by omega) _ (dV (p:=(70,102)) hF1.out (by simp))
   have HS2:Hid (Calls Tryz.prog 165 #[.int .i32 102] (w'.iter T q) fun e w1=>e=.returned (.int .i32 70)/\w1=w'.iter T q):=dB 102 70 (by omega) (by omega) (by omega) _ (dV (p:=(102,70)) hF1.out (by simp))
   have r1:((70:Int)==(r:Int))=false:=by rw[ak];omega
   have r2:(70:Int)<(r:Int):=by omega
   have r3:¬(r:Int)<128:=by omega
   have r4:(102:Int)<(r:Int):=by omega
   go_wp2;refine wp_loop_rounds 1 ?_;rw[rounds_succ]
   go_wp2_with fail
   refine(HD.out _).mono ?_;rintro e w1⟨rfl,hw1⟩;rw[hw1]
   go_wp2_with fail
   refine HS1.out.mono ?_;rintro e w2⟨rfl,hw2⟩;rw[hw2];go_wp2;refine wp_loop_rounds 2 ?_;rw[rounds_succ]
   go_wp2_with fail
   refine HS2.out.mono ?_;rintro e w3⟨rfl,hw3⟩;rw[hw3];go_wp2;rw[rounds_succ];go_wp2;simp only[Exit.jump];go_ret;exact⟨rfl,(ae w'.heap.size w').alloc (af _) _⟩
  |3,_ =>
   have hX:(⟨#[85,84,70,45,56]⟩ : ByteArray).extract 3 5=⟨#[45,56]⟩:=cp (by rw[cS];rfl)
   have hX2:(⟨#[45,56]⟩ : ByteArray).extract 1 2=⟨#[56]⟩:=cp (by rw[cS];rfl)
   have HD:Hid (∀w,Calls Tryz.prog 164 #[.string ⟨#[45,56]⟩] w fun e w'=>e=.returned (.tuple #[.int .i32 45,.int .i64 1])/\w'=w):=ew ⟨#[45,56]⟩ 45 (by decide) (by rw[aq];simp) (fun w=>by kernel_rfl)
   have HS1:Hid (Calls Tryz.prog 165 #[.int .i32 45] (w'.iter T q) fun e w1=>e=.returned (.int .i32 45)/\w1=w'.iter T q):=dB 45 45 (by omega) (by omega) (by omega) _ (dV (p:=(45,45)) hF1.out (by simp))
   have r1:((45:Int)==(r:Int))=false:=by rw[ak];omega
   have r2:(45:Int)<(r:Int):=by omega
   have r3:¬(r:Int)<128:=by omega
   go_wp2;refine wp_loop_rounds 1 ?_;rw[rounds_succ]
   go_wp2_with fail
   refine(HD.out _).mono ?_;rintro e w1⟨rfl,hw1⟩;rw[hw1]
   go_wp2_with fail
   refine HS1.out.mono ?_;rintro e w2⟨rfl,hw2⟩;rw[hw2];go_wp2;refine wp_loop_rounds 2 ?_;rw[rounds_succ];go_wp2;simp only[Exit.jump];go_ret;exact⟨rfl,(ae w'.heap.size w').alloc (af _) _⟩
  |4,_ =>
   have hX:(⟨#[85,84,70,45,56]⟩ : ByteArray).extract 4 5=⟨#[56]⟩:=cp (by rw[cS];rfl)
   have hX2:(⟨#[56]⟩ : ByteArray).extract 1 1=⟨#[]⟩:=cp (by rw[cS];rfl)
   have HD:Hid (∀w,Calls Tryz.prog 164 #[.string ⟨#[56]⟩] w fun e w'=>e=.returned (.tuple #[.int .i32 56,.int .i64 1])/\w'=w):=ew ⟨#[56]⟩ 56 (by decide) (by rw[aq];simp) (fun w=>by kernel_rfl)
   have HS1:Hid (Calls Tryz.prog 165 #[.int .i32 56] (w'.iter T q) fun e w1=>e=.returned (.int .i32 56)/\w1=w'.iter T q):=dB 56 56 (by omega) (by omega) (by omega) _ (dV (p:=(56,56)) hF1.out (by simp))
   have r1:((56:Int)==(r:Int))=false:=by rw[ak];omega
   have r2:(56:Int)<(r:Int):=by omega
   have r3:¬(r:Int)<128:=by omega
   go_wp2;refine wp_loop_rounds 1 ?_;rw[rounds_succ]
   go_wp2_with fail
   refine(HD.out _).mono ?_;rintro e w1⟨rfl,hw1⟩;rw[hw1]
   go_wp2_with fail
   refine HS1.out.mono ?_;rintro e w2⟨rfl,hw2⟩;rw[hw2];go_wp2;refine wp_loop_rounds 2 ?_;rw[rounds_succ];go_wp2;simp only[Exit.jump];go_ret;exact⟨rfl,(ae w'.heap.size w').alloc (af _) _⟩
theorem Dk:lb:=fun v w hl hW=>by
 have HF:Hid (Calls Tryz.prog 125 #[.string (ba v),.string ⟨#[85,84,70,45,56]⟩] w fun e w'=>e=.returned (.bool (jd v))/\Below w.heap.size w w'):=by
  have h:=AN (ba v) (by rw[cV];omega) w hW.fold
  rw[bp]at h;exact h
 generalize jd v=Bz at *;generalize ba v=Z at *;clear hW;go_enter Tryz.func85,Tryz.ntmps85
 go_wp2_with fail
 refine HF.out.mono ?_;rintro e w1⟨rfl,hb⟩;have HB:=aa hb;clear hb;go_wp2;go_ret;exact⟨rfl,HB.out⟩
theorem zY(A:Option Addr)(c:Nat)(bs:List UInt8)(w:World)(hB : 8<=w.heap.size)(hW:Wd w)(hl:en w w.heap.size A (ec bs))(hc:bs.length<=c)(hcm:c<=9223372036854775807)(hn:bs.length<=40000) :
 Calls Tryz.prog 12 #[.slice A bs.length c] w fun e w'=>BL dG bs w.heap.size e w'/\Below w.heap.size w w':=zX BZ (DI Dk) A c bs w hB hW hl hc hcm hn
end
section
open Go.RowKit
noncomputable def lG(bs:List UInt8):Int ⊕ List Nd:=match qh dG bs with
 |none => .inl 2
 |some l=>bif db l then(bif cX l then .inr l else .inl 3)else .inl 2
theorem vV{bs:List UInt8}{E:Int}(h:lG bs=.inl E):E=2∨E=3:=by
 unfold lG at h
 split at h
 ·exact .inl (Sum.inl.inj h).symm
 ·next l hl =>
  cases hf:db l<;>rw[hf]at h
  ·exact .inl (Sum.inl.inj h).symm
  ·cases hw:cX l<;>rw[hw]at h
   ·exact .inr (Sum.inl.inj h).symm
   ·cases h
theorem vU{bs l:_}(h:lG bs=.inr l):qh dG bs=some l/\db l=true/\cX l=true:=by
 unfold lG at h
 split at h
 ·cases h
 ·next l' hl =>
  cases hf:db l'<;>rw[hf]at h
  ·cases h
  ·cases hw:cX l'<;>rw[hw]at h
   ·cases h
   ·obtain rfl:=Sum.inr.inj h
    exact⟨hl,hf,hw⟩
theorem tI{bs l:_}(hn:bs.length<=40000)(h:qh dG bs=some l):∀x∈l,Sm x:=by
 unfold qh at h
 split at h
 ·have hll:=kb bs
  have hfl:=tK (bJ bs);exact(px _ (dG (bJ bs)).length _ l (by omega) (Gx _) (IX _) h).1
 ·cases h
def Hn(D:Int ⊕ List Nd)(B:Nat)(e:Ending)(w':World):Prop:=match D with
 | .inl E=>e=.returned (.tuple #[.pointer none,.int .i64 E])
 | .inr l => ∃d B',B<=B'/\e=.returned (.tuple #[.pointer (some ⟨d,0,none⟩),.int .i64 0])/\iy w' B' d l
theorem Gy{bs:List UInt8}{B:Nat}{e:Ending}{w':World}(h:BL dG bs B e w'):Hn (lG bs) B e w':=by
 unfold BL at h;unfold lG
 split at h
 ·next hd=>rw[hd];exact h
 ·next l hd =>
  rw[hd];obtain⟨B',hB,⟨hf,he⟩|⟨hf,hw,he⟩|⟨hf,hw,d,he,hdoc⟩⟩:=h
  ·dsimp only;rw[hf];exact he
  ·dsimp only;rw[hf,hw];exact he
  ·dsimp only;rw[hf,hw];exact⟨d,B',hB,he,hdoc⟩
theorem yz(A:Option Addr)(c:Nat)(bs:List UInt8)(w:World)(hB : 8<=w.heap.size)(hW:Wd w)(hl:en w w.heap.size A (ec bs))(hc:bs.length<=c)(hcm:c<=9223372036854775807)(hn:bs.length<=40000) :
 Calls Tryz.prog 12 #[.slice A bs.length c] w fun e w'=>Hn (lG bs) w.heap.size e w'/\Below w.heap.size w w':=(zY A c bs w hB hW hl hc hcm hn).mono fun e w' ⟨h1,h2⟩=>⟨Gy h1,h2⟩
end
end Go.Proofs.YteinegfbpfhflaaGreatDoor
