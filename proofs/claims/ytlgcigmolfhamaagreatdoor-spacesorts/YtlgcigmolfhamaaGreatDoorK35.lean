/-
  parse.read. Conditions: nothing is too long; upTo and behindDeclaration answer what they are to answer.
  parse.read: every node that it leaves is small: plain mathematics. Conditions: none.
  Lines ended: the program's and the document's. Conditions: the text is not too long.
-/
import Derived.Test.YtlgcigmolfhamaaGreatDoorK34
import Derived.Test.YtlgcigmolfhamaaGreatDoorK10
import Derived.Test.YtlgcigmolfhamaaGreatDoorK24
namespace Go.Proofs.YtlgcigmolfhamaaGreatDoor
open Go.RowKit
set_option linter.unusedVariables false
set_option maxRecDepth 100000
set_option maxHeartbeats 16000000
def a9P(f:List UInt8->List UInt8):Prop:=∀(s:List UInt8) (w:World),s.length<=100000->Wd w->(f s).length<=s.length/\Calls Tryz.prog 75 #[.string (ba s)] w fun e w'=>e=.returned (.string (ba (f s)))/\Below w.heap.size w w'
def b7F(T:Option (List Nd))(B:Nat)(e:Ending)(w':World):Prop:=match T with
 |none => ∃v,e=.returned (.tuple #[v,.bool false])
 |some ns => ∃rb st vn vo vd vt ys,S7 w' B rb st vn vo vd vt ys/\st.ns=ns/\e=.returned (.tuple #[vn,.bool true])
theorem a8s(w:World)(o:Obj):(w.alloc o).heap.size=w.heap.size+1:=by
 show(w.heap.push o).size=_
 exact Array.size_push _
theorem b8o(w1:World)(B:Nat)(hB:B<=w1.heap.size)(S:List UInt8):S7 (((w1.alloc (Obj.cells #[.int .i64 0,.int .i64 (-1),.string ⟨#[]⟩,.string ⟨#[]⟩,.string ⟨#[]⟩,.string ⟨#[]⟩,.slice none 0 0,.slice none 0 0] 46)).alloc (Obj.cells #[.int .i64 0,.string ⟨#[]⟩,.int .i64 0] 116)).alloc (Obj.cells #[.string (ba S),.slice (some ⟨w1.heap.size,0,none⟩) 1 1,.slice (some ⟨w1.heap.size+1,0,none⟩) 1 1,.slice none 0 0,.slice none 0 0] 119)) B (w1.heap.size+1+1) (rd0 S) (.slice (some ⟨w1.heap.size,0,none⟩) 1 1) (.slice (some ⟨w1.heap.size+1,0,none⟩) 1 1) (.slice none 0 0) (.slice none 0 0) [⟨Y3,.slice none 0 0,.slice none 0 0⟩]:=by
 obtain⟨wa,ha⟩ : ∃wa,w1.alloc (Obj.cells #[.int .i64 0,.int .i64 (-1),.string ⟨#[]⟩,.string ⟨#[]⟩,.string ⟨#[]⟩,.string ⟨#[]⟩,.slice none 0 0,.slice none 0 0] 46)=wa:=⟨_,rfl⟩;have sa:wa.heap.size=w1.heap.size+1:=by rw[<-ha];exact a8s _ _
 have ra:wa.ownsRow B 46 8 (.slice (some ⟨w1.heap.size,0,none⟩) 1 1) 1 [.int .i64 0,.int .i64 (-1),.string ⟨#[]⟩,.string ⟨#[]⟩,.string ⟨#[]⟩,.string ⟨#[]⟩,.slice none 0 0,.slice none 0 0]:=by
  rw[<-ha];exact World.ownsRow_lit w1 _ 1 hB (by decide) rfl
 rw[ha];obtain⟨wb,hb⟩ : ∃wb,wa.alloc (Obj.cells #[.int .i64 0,.string ⟨#[]⟩,.int .i64 0] 116)=wb:=⟨_,rfl⟩;have sb:wb.heap.size=w1.heap.size+1+1:=by rw[<-hb,<-sa];exact a8s _ _
 have D1:Below wa.heap.size wa wb:=by rw[<-hb];exact(b8 _ _).alloc (c9 _) _
 have rb:wb.ownsRow B 116 3 (.slice (some ⟨w1.heap.size+1,0,none⟩) 1 1) 1 [.int .i64 0,.string ⟨#[]⟩,.int .i64 0]:=by
  rw[<-hb,<-sa];exact World.ownsRow_lit wa _ 1 (by omega) (by decide) rfl
 rw[hb];have D0:∀o,Below wb.heap.size wb (wb.alloc o):=fun o=>(b8 _ _).alloc (c9 _) _;refine⟨by omega,by rw[<-sb];exact g9 wb _,rfl,L3 (L3 ra D1) (D0 _),L3 rb (D0 _),r5 _ _ _ _,r5 _ _ _ _,?_,?_⟩
 ·intro y hy
  rw[r8]at hy;subst hy;exact⟨r5 _ _ _ _,r5 _ _ _ _⟩
 ·intro y hy
  rw[r8]at hy;subst hy;exact .inl rfl
theorem c1A{w w1:World}{B:Nat}(hB:B<=w.heap.size)(h:Below B w w1)(o1 o2 o3:Obj):Below B w (((w1.alloc o1).alloc o2).alloc o3):=by
 have a:=h.alloc (d8 hB h.size) o1;have b:=a.alloc (d8 hB a.size) o2;exact b.alloc (d8 hB b.size) o3
def b3V(w0:World)(B rb:Nat)(T:Option (List Nd))(v:Value)(wr:World):Prop:=∃(n:Nat) (st:Rd),Pot 100000 st/\st.rest.length<n/\Q7 n st=T/\O8 wr B rb st/\Below B w0 wr
theorem b59(hU:a0s){f:List UInt8->List UInt8}(hF:a9P f)(w:World)(s:List UInt8)(hs:s.length<=100000)(hB : 8<=w.heap.size)(hW:Wd w)(T:Option (List Nd))(hT:Q7 ((f s).length+1) (rd0 (f s))=T) :
 Calls Tryz.prog 42 #[.string (ba s)] w fun e w'=>b7F T w.heap.size e w'/\Below w.heap.size w w':=by
 have HU:=a8 hU;obtain⟨G8,E7⟩:=hF s w hs hW;have E2:=a8 E7;have HT:=a8 hT;have HW:=a8 hW;clear hU E7 hF hT hW;obtain⟨S,hS⟩ : ∃S,f s=S:=⟨_,rfl⟩;rw[hS]at E2 HT G8;clear hS;obtain⟨B,E8⟩ : ∃B,w.heap.size=B:=⟨_,rfl⟩;rw[E8]at E2 hB ⊢;have G0:B<=w.heap.size:=by omega
 clear E8;go_enter Tryz.func42,Tryz.ntmps42
 go_wp2_with fail
 refine E2.out.mono ?_;rintro e w1⟨rfl,E4⟩;have G1:=a8 E4;have G9:B<=w1.heap.size:=d8 G0 E4.size;clear E4
 go_wp2_with fail
 have E5:=a8 (b8o w1 B G9 S);have G4:=a8 (fun(o1 o2 o3:Obj)=>c1A G0 G1.out o1 o2 o3);have D1:Hid (∀w2 rb,O8 w2 B rb (rd0 S)->Below B w w2->b3V w B rb T undef w2):=fun w2 rb h1 h2=>⟨_,rd0 S,(b9Z S).mono (by omega),Nat.lt_succ_self _,HT.out,h1,h2⟩
 clear HT;obtain⟨rb,J1⟩ : ∃rb,w1.heap.size+1+1=rb:=⟨_,rfl⟩;rw[J1]at E5 ⊢
 go_loopw [16] (b3V w B rb T) (fun _ wr=>a3Q wr rb)
 case atStart=>exact D1.out _ rb ⟨_,_,_,_,_,E5.out⟩ (G4.out _ _ _)
 case round =>
  clear D1 E5 G4 E2 G1;obtain⟨n,st,hp,hn,hT,G5,hb⟩:=hrel;have HB:=a8 hb;have HP:=a8 hp;have G6:=a8 G5;clear hb hp;obtain⟨vn,vo,vd,vt,ys,D2⟩:=G5;have J2:=a8 D2;have c0:=D2.cell.1;have c1:=D2.cell.2.1;have G7:a3Q wr rb=st.rest.length:=a5V D2;have J3:=a8 G7;clear D2 G7;cases n with
  |zero=>omega
  |succ n =>
  rw[Q7]at hT;by_cases hz:st.rest=[]
  ·rw[g8 hz]at hT
   rw[hz]at c0;replace c0:wr.cell? ⟨rb,0,none⟩=some (.string ⟨#[]⟩):=c0;have HQ:Hid (∀m,Calls Tryz.prog 77 #[.pointer (some ⟨rb,0,none⟩)] (wr.drewN m) fun e w''=>e=.returned (.bool (decide (st.op.length=1)))/\w''=wr.drewN m):=fun m=>U1 (wr.drewN m) B rb st (G6.out.below (i7 (b8 _ _) m))
   have D3:Hid (∀m,b7F T B (.returned (.tuple #[vn,.bool (decide (st.op.length=1))])) (wr.drewN m)):=fun m=>by
    rw[<-hT];by_cases h1:st.op.length=1
    ·rw[g8 h1,i6 h1]
     exact⟨rb,st,vn,vo,vd,vt,ys,J2.out.below (i7 (b8 _ _) m),rfl,rfl⟩
    ·rw[f6 h1,f8 h1]
     exact⟨vn,rfl⟩
   clear hT hz;generalize decide (st.op.length=1)=Bz at *
   go_wp2_with fail
   go_quiet ((go_at_call 77;exact Calls.quiet_of_same (HQ.out _)))
   go_wp2
   go_ret2
   exact⟨D3.out _,i7 HB.out _⟩
  ·rw[f6 hz]at hT
   obtain⟨fr,o,ho⟩ : ∃fr o,st.op=fr++[o]:=⟨st.op.dropLast,st.op.getLast HP.out.ne,(List.dropLast_concat_getLast HP.out.ne).symm⟩;rw[ho,List.getLast?_concat,List.dropLast_concat]at hT;dsimp only at hT;have D0:=HP.out;have E3:=a8 (b6u HU.out wr B rb st fr o ho (D0.out o (by rw[ho];exact List.mem_append_right _ (List.mem_singleton_self _))) D0.pr (by have:=D0.pn;omega) (by have:=D0.po;omega) (by have:=D0.pd;omega) (by have:=D0.pt;omega) G6.out hB (HW.out.low hB HB.out))
   have t0:(ba st.rest).toList≠[]:=by rw[f9,B5];exact hz
   have t1:((ba st.rest).toList == [])=false:=by rw[e9];exact t0
   have HZ:=a8 hz;clear hz D0;cases hx:L0 st fr o with
   |none =>
    rw[hx]at hT E3;have D3:=a8 hT;clear hT hx ho
    go_wp2_with fail
    refine E3.out.mono ?_;rintro e w2⟨rfl,D9⟩;have E6:=a8 (HB.out.trans D9);clear D9;go_wp2
    go_ret2
    exact⟨by rw[<-D3.out];exact⟨_,rfl⟩,E6.out⟩
   |some st' =>
    rw[hx]at hT E3;obtain⟨hp',J4⟩:=b0C HP.out ho HZ.out hx;have D3:=a8 hT;have HP':=a8 hp';clear hT hx ho hp'
    go_wp2_with fail
    refine E3.out.mono ?_;rintro e w2⟨⟨rfl,E0⟩,D9⟩;have E6:=a8 (HB.out.trans D9);have E1:=a8 E0;clear D9 E0;go_wp2
    go_roundw
    case rel=>exact⟨n,st',HP'.out,by omega,D3.out,E1.out,E6.out⟩
    case measure =>
     rw[J3.out];obtain⟨_,_,_,_,_,h⟩:=E1.out;rw[a5V h];exact J4
def DSm(d:Dc):Prop:=d.p.size<=2000000/\d.u.size<=2000000
structure a4H(st:Rd):Prop where
 ns:∀x∈st.ns,Sm x
 ds:∀d∈st.ds,DSm d
theorem X2:(⟨#[]⟩ : ByteArray).size<=2000000:=o4 _
theorem a9W{x:Nd}{n:Nat}(h:Sm x):Sm (G6 x n):=⟨h.p,h.l,h.u,h.t,h.nd,h.na,h.ds,h.ats⟩
theorem a2m{k n:Int}{l t:ByteArray}(hl:l.size<=2000000)(ht:t.size<=2000000):Sm ⟨k,n,⟨#[]⟩,l,⟨#[]⟩,t,[],[]⟩:=⟨X2,hl,X2,ht,o4 _,o4 _,fun d hd=>(by cases hd),fun a ha=>(by cases ha)⟩
theorem a0O{l:List UInt8}(h:l.length<=2000000):(ba l).size<=2000000:=by rw[I9];exact h
theorem b3A{st:Rd}{o:Po}(h:a4H st)(ht:st.tx.length<=2000000):a4H (Q1 st o):=by
 refine⟨fun x hx => ?_,h.ds⟩;have hx':x∈st.ns++(if st.tx=[]then[]else[G6 (a4O st.tx) o.node]):=hx;rw[D6]at hx';rcases hx' with hx'|hx'
 ·exact h.ns x hx'
 ·split at hx'
  ·cases hx'
  ·rw[r8]at hx'
   subst hx';exact a9W (a2m X2 (a0O ht))
theorem a9M{st:Rd}{o:Po}{x:Nd}(h:a4H st)(ht:st.tx.length<=2000000)(hx:Sm x):a4H (a1o st o x):=by
 refine⟨fun y hy => ?_,h.ds⟩;have hy':y∈(Q1 st o).ns++[G6 x o.node]:=hy;rw[D6,r8]at hy';rcases hy' with hy'|rfl
 ·exact(b3A h ht).ns y hy'
 ·exact a9W hx
theorem b0G{ds:List Dc}{p:ByteArray}(h:∀d∈ds,DSm d):(a0l ds p).size<=2000000:=by
 unfold a0l
 split
 ·decide
 ·cases hf:a0b ds.reverse p.data.toList with
  |none=>exact X2
  |some u =>
   unfold a0b at hf;obtain⟨d,hd,rfl⟩:=Option.map_eq_some_iff.1 hf;have:=List.mem_of_find?_eq_some hd;exact(h d (List.mem_reverse.1 this)).2
theorem c0w{ds:List Dc}{x:Nd}(h:∀d∈ds,DSm d)(hx:Sm x):Sm (elM ds x):=by
 refine⟨hx.p,hx.l,b0G h,hx.t,hx.nd,by show(x.ats.map (a1I ds)).length<=_;rw[C9];exact hx.na,hx.ds,fun a ha => ?_⟩
 have ha':a∈x.ats.map (a1I ds):=ha;obtain⟨b,hb,rfl⟩:=List.mem_map.1 ha';obtain⟨h1,h2,h3,h4⟩:=hx.ats b hb;unfold a1I
 split
 ·exact⟨h1,h2,h3,h4⟩
 ·exact⟨h1,h2,b0G h,h4⟩
theorem b3Q{st:Rd}{o:Po}{x:Nd}{full:List UInt8}(h:a4H st)(ht:st.tx.length<=2000000)(hx:Sm x):a4H (a1s st o x full):=by
 have hd:∀d∈st.ds++x.ds,DSm d:=fun d hd=>by
  rw[D6]at hd;rcases hd with hd|hd
  ·exact h.ds d hd
  ·exact hx.ds d hd
 have:=a9M (o:=o) (st:={ st with ds:=st.ds++x.ds }) ⟨h.ns,hd⟩ ht (c0w hd hx);exact⟨this.ns,hd⟩
theorem b3O{st:Rd}{fr:List Po}{o:Po}(h:a4H st)(ht:st.tx.length<=2000000):a4H (a5z st fr o):=⟨(b3A (o:=o) h ht).ns,fun d hd=>h.ds d (List.mem_of_mem_take hd)⟩
theorem b0a{s p l:List UInt8}(h:M4 s=some (p,l)):p.length<=s.length/\l.length<=s.length:=by
 unfold M4 at h
 split at h
 ·next hx =>
  simp only[f5]at h;have:=hx.choose_spec;rw[h]at this;rcases this with⟨rfl,rfl,_⟩|⟨_,_,h3⟩
  ·exact⟨o4 _,c9 _⟩
  ·rw[h3];simp only[e8,i8];omega
 ·cases h
theorem b3U{x:Nd}{p l:List UInt8}{v:ByteArray}(hx:Sm x)(hn:x.ds.length+x.ats.length<=1000000)(hp:p.length<=2000000)(hl:l.length<=2000000)(hv:v.size<=2000000):Sm (V4 x p l v):=by
 have hd:∀(q:ByteArray),q.size<=2000000->Sm { x with ds:=x.ds++[⟨q,v⟩] }:=fun q hq=>⟨hx.p,hx.l,hx.u,hx.t,by show(x.ds++[_]).length<=_;rw[e8,j0];omega,hx.na,fun d hd=>by
  have hd':d∈x.ds++[⟨q,v⟩]:=hd;rw[D6,r8]at hd';rcases hd' with h|rfl
  ·exact hx.ds d h
  ·exact⟨hq,hv⟩,hx.ats⟩
 unfold V4
 split
 ·exact hd _ X2
 ·split
  ·exact hd _ (a0O hl)
  ·refine⟨hx.p,hx.l,hx.u,hx.t,hx.nd,by show(x.ats++[_]).length<=_;rw[e8,j0];omega,hx.ds,fun a ha => ?_⟩
   have ha':a∈x.ats++[⟨ba p,ba l,⟨#[]⟩,v⟩]:=ha;rw[D6,r8]at ha';rcases ha' with h|rfl
   ·exact hx.ats a h
   ·exact⟨a0O hp,a0O hl,X2,hv⟩
theorem b6C{s r:List UInt8}{x x':Nd}(hs:s.length<=100000)(hx:Sm x)(hn:x.ds.length+x.ats.length<=1000000)(h:T5 s x=some (r,x')):Sm x':=by
 unfold T5 at h;cases h1:M4 (G9 y8 s)with
 |none=>rw[h1]at h;cases h
 |some q =>
  obtain⟨p,l⟩:=q;rw[h1]at h;dsimp only at h;cases h2:V3 (J9 y8 s)with
  |none=>rw[h2]at h;cases h
  |some r2 =>
   rw[h2]at h;dsimp only at h;cases h3:V0 r2 with
   |none=>rw[h3]at h;cases h
   |some q2 =>
    obtain⟨q,r3⟩:=q2;rw[h3]at h;dsimp only at h;cases h4:X5 q with
    |none=>rw[h4]at h;cases h
    |some v =>
     rw[h4]at h;simp only[f5,Prod.mk.injEq]at h;obtain⟨rfl,rfl⟩:=h;have ha:=a0S y8 s;have hb:=a0R y8 s;have D0:=b0a h1;have he:=a0o h2;have hq:=a1d h3;have hv:=b5C h4;exact b3U hx hn (by omega) (by omega) (a0O (by omega))
theorem b23(full:List UInt8)(o:Po):∀(n:Nat) (st st':Rd) (x:Nd),a4H st->st.tx.length<=2000000->Sm x->st.rest.length+x.ds.length+x.ats.length<=100000->a2A full o n st x=some st'->a4H st'
 |0,st,st',x,_,_,_,_,h=>by cases h
 |n+1,st,st',x,hs,ht,hx,hl,h=>by
  rw[a2A]at h;have hb:=I0 st.rest;cases h1:m9 [62] (n8 st.rest)with
  |some r =>
   rw[h1]at h;simp only[f5]at h;subst h;exact b3Q (st:={ st with rest:=r }) ⟨hs.ns,hs.ds⟩ ht hx
  |none =>
   rw[h1]at h;dsimp only at h;cases h2:m9 [47,62] (n8 st.rest)with
   |some r =>
    rw[h2]at h;simp only[f5]at h;subst h;exact b3O (b3Q (st:={ st with rest:=r }) ⟨hs.ns,hs.ds⟩ ht hx) (o4 _)
   |none =>
    rw[h2]at h;dsimp only at h
    split at h
    ·cases hm:T5 (n8 st.rest) x with
     |none=>rw[hm]at h;cases h
     |some q =>
      obtain⟨r,x'⟩:=q;rw[hm]at h;dsimp only at h;have D0:=a3g hm;exact b23 full o n { st with rest:=r } st' x' ⟨hs.ns,hs.ds⟩ ht (b6C (by omega) hx (by omega) hm) (by dsimp only;omega) h
    ·cases h
theorem b8x{st st':Rd}{fr:List Po}{o:Po}(hp:Pot 100000 st)(hs:a4H st)(hn:L0 st fr o=some st'):a4H st':=by
 have ht:st.tx.length<=2000000:=by have:=hp.pt;omega
 have hr:=hp.pr;unfold L0 at hn;cases h1:m9 [60,33,45,45] st.rest with
 |some r =>
  rw[h1]at hn;dsimp only at hn;unfold a3R at hn;have hl:=G5 h1
  split at hn
  ·cases hn
  ·next p r' hc =>
   simp only[f5]at hn;subst hn;have:=P4 hc;dsimp only at this;exact a9M (st:={ st with rest:=r' }) ⟨hs.ns,hs.ds⟩ ht (a2m X2 (a0O (by omega)))
 |none =>
 rw[h1]at hn;dsimp only at hn;cases h2:m9 [60,33,91,67,68,65,84,65,91] st.rest with
 |some r =>
  rw[h2]at hn;dsimp only at hn;unfold a4w at hn
  split at hn
  ·cases hn
  ·split at hn
   ·cases hn
   ·simp only[f5]at hn
    subst hn;exact⟨hs.ns,hs.ds⟩
 |none =>
 rw[h2]at hn;dsimp only at hn;cases h3:m9 [60,63] st.rest with
 |some r =>
  rw[h3]at hn;dsimp only at hn;unfold a2v at hn;have hl:=G5 h3
  split at hn
  ·cases hn
  ·next p r' hc =>
   simp only[f5]at hn;subst hn;have:=P4 hc;dsimp only at this;have h1:=a0S [32,9,10] p;have h2:=a0R [32,9,10] p;have h3:=I0 (J9 [32,9,10] p);exact a9M (st:={ st with rest:=r' }) ⟨hs.ns,hs.ds⟩ ht (a2m (a0O (by omega)) (a0O (by omega)))
 |none =>
 rw[h3]at hn;dsimp only at hn;cases h4:m9 [60,47] st.rest with
 |some r =>
  rw[h4]at hn;dsimp only at hn;unfold Z8 at hn
  split at hn
  ·cases hn
  ·split at hn
   ·cases hn
   ·split at hn
    ·cases hn
    ·next r1 _ _ r2 _ =>
     simp only[f5]at hn;subst hn;have:=b3O (st:={ st with rest:=n8 r1 }) (fr:=fr) (o:=o) ⟨hs.ns,hs.ds⟩ ht;exact⟨this.ns,this.ds⟩
 |none =>
 rw[h4]at hn;dsimp only at hn;cases h5:m9 [60] st.rest with
 |some r =>
  rw[h5]at hn;dsimp only at hn;unfold a1Q at hn;have hl:=G5 h5
  split at hn
  ·cases hn
  ·next p l D0 =>
   have h6:=b0a D0;have h7:=a0S y8 r;have h8:=a0R y8 r;dsimp only at h6 h7 h8;refine b23 _ _ _ { st with rest:=J9 y8 r } st' ⟨1,0,ba p,ba l,⟨#[]⟩,⟨#[]⟩,[],[]⟩ ⟨hs.ns,hs.ds⟩ ht ?_ ?_ hn
   ·exact⟨a0O (l:=p) (by omega),a0O (l:=l) (by omega),X2,X2,o4 _,o4 _,fun d hd=>(by cases hd),fun a ha=>(by cases ha)⟩
   ·show(J9 y8 r).length+0+0<=_;omega
 |none =>
 rw[h5]at hn;dsimp only at hn;unfold a3t at hn
 split at hn
 ·split at hn
  ·simp only[f5]at hn
   subst hn;exact⟨hs.ns,hs.ds⟩
  ·cases hn
 ·split at hn
  ·cases hn
  ·simp only[f5]at hn
   subst hn;exact⟨hs.ns,hs.ds⟩
theorem a6q:∀(n m:Nat) (st:Rd) (l:List Nd),m<=100000->Pot m st->a4H st->Q7 n st=some l->(∀x∈l,Sm x)/\l.length<=2*m+1
 |0,m,st,l,_,_,_,h=>by cases h
 |n+1,m,st,l,hm,hp,hs,h=>by
  rw[Q7]at h
  split at h
  ·split at h
   ·simp only[f5]at h
    subst h;exact⟨hs.ns,by have:=hp.pn;omega⟩
   ·cases h
  ·next hz =>
   obtain⟨fr,o,ho⟩ : ∃fr o,st.op=fr++[o]:=⟨st.op.dropLast,st.op.getLast hp.ne,(List.dropLast_concat_getLast hp.ne).symm⟩;rw[ho,List.getLast?_concat,List.dropLast_concat]at h;dsimp only at h;cases hx:L0 st fr o with
   |none=>rw[hx]at h;cases h
   |some st' =>
    rw[hx]at h;exact a6q n m st' l hm (b0C hp ho hz hx).1 (b8x (hp.mono hm) hs hx) h
theorem sm0(s:List UInt8):a4H (rd0 s):=⟨fun x hx=>by
 have:x∈[Y3]:=hx;rw[r8]at this;subst this;exact a2m X2 X2,fun d hd=>by cases hd⟩
theorem b6F(N:Nat)(hN:N<=1000000)(W:World):∃W',(Instr.makeSlice 22 (.int .i64 0) (.int .i64 (N:Int))).run Tryz.prog W=.ok (.slice (some ⟨W.heap.size,0,none⟩) 0 N) W'/\Own W' W.heap.size (.slice (some ⟨W.heap.size,0,none⟩) 0 N) []/\Below W.heap.size W W':=by
 obtain⟨i0,hi,D0,D1,D2⟩:=info_parts a4B;have h:=run_make (P:=Tryz.prog) W 22 5 i0 (.int .u8 0) Tryz.underlying22 hi D0 .i64 .i64 (0:Int) (N:Int) (by omega) (by omega) (by rw[D2];omega) (by omega)
 have hM:(madeCells (Value.int .u8 0).cells (((N:Nat):Int).toNat*i0.size)).size=N:=by rw[size_madeCells,D1];simp
 generalize madeCells (Value.int .u8 0).cells (((N:Nat):Int).toNat*i0.size)=M at *;refine⟨W.alloc (.cells M 5),by simpa using h,.inr ⟨W.heap.size,N,rfl,c9 _,by simp,o4 _,by omega,fun j hj=>⟨?_,frozen_of_row _ _ j M 5 (g9 W _)⟩,fun j u hu=>by simp[P6]at hu⟩,(b8 _ _).alloc (c9 _) _⟩
 rw[d9 _ _ j _ _ _ (g9 W _),r9 (by omega)];rfl
def b3X(w:World)(s:List UInt8)(v i:Value)(wr:World):Prop :=
 ∃(k:Nat) (O:List UInt8),k<=s.length/\i=.int .i64 (k:Int)/\Own wr w.heap.size v O/\O.length<=k/\C4 s=O++C4 (s.drop k)/\Below w.heap.size w wr
theorem b0N{s:List UInt8}{k:Nat}(h:k<s.length):C4 (s.drop k)=if s[k]=13 then(if s[k+1]? = some 10 then C4 (s.drop (k+1))else 10::C4 (s.drop (k+1)))else s[k]::C4 (s.drop (k+1)):=by
 rw[B8 h,Y5,List.head?_drop]
theorem a3h{O T R:List UInt8}{c:UInt8}{s:List UInt8}(h:C4 s=O++T)(h2:T=c::R):C4 s=(O++[c])++R:=by rw[h,h2];simp
theorem a6S(S:ByteArray){k:Nat}(h:k+1<S.data.toList.length)(w:World):(Instr.index 9 (.string S) (.int .i64 ((k:Int)+1))).run Tryz.prog w=.ok (.int .u8 ((S.data.toList[k+1].toNat:Nat):Int)) w:=by
 have:=G7 S h w;simpa using this
theorem a5X{c d:UInt8}(h:c≠d):¬(c.toNat:Int)=(d.toNat:Int):=fun e=>h (F1.1 (by omega))
theorem b4R(S:ByteArray)(G4:S.size<=100000)(w:World):Calls Tryz.prog 43 #[.string S] w fun e w'=>e=.returned (.string ⟨(C4 S.data.toList).toArray⟩)/\Below w.heap.size w w':=by
 obtain⟨N,hN⟩ : ∃N,S.size=N:=⟨_,rfl⟩;have J1:S.data.toList.length=N:=by rw[<-j9];exact hN
 have D1:=a8 J1;rw[hN]at G4;obtain⟨R,hR⟩ : ∃R:ByteArray,⟨(C4 S.data.toList).toArray⟩=R:=⟨_,rfl⟩;rw[hR];have HR:=a8 hR;clear J1 hR;obtain⟨W,J9,J2,J3⟩:=b6F N (by omega) w
 have L0:=a8 J2;have L1:=a8 J3;clear J2 J3;go_enter Tryz.func43,Tryz.ntmps43;go_wp2;clear J9
 go_loopw [3,10] (b3X w S.data.toList) (fun _ i _=>N-(intOf i).toNat)
 case atStart=>exact⟨0,[],o4 _,rfl,L0.out,o4 _,by rw[List.drop_zero];rfl,L1.out⟩
 case round =>
  obtain⟨k,O,hk,rfl,hO,M1,J4,hb⟩:=hrel;rw[D1.out]at hk;have HO:=a8 hO;have E1:=a8 J4;have HB:=a8 hb;have G5:=hb.size;clear hO J4 hb;by_cases E3:k<N
  ·have E2:k<S.data.toList.length:=by rw[D1.out];exact E3
   have G0:=G7 S E2;have D0:=b0N E2;have J5:(k:Int)<(N:Int):=by omega
   have G6:O.length+1<=1000000000000:=by omega
   by_cases hc:S.data.toList[k]=13
   ·rw[hc]at G0 D0
    rw[g8 rfl]at D0;have L2:∀w,(Instr.index 9 (.string S) (.int .i64 (k:Int))).run Tryz.prog w=.ok (.int .u8 13) w:=G0;clear G0 hc;by_cases hl:k+1<N
    ·have D2:k+1<S.data.toList.length:=by rw[D1.out];exact hl
     have G8:=a6S S D2;rw[i5 D2]at D0;have L3:((k:Int)+1==(N:Int))=false:=by rw[e9];omega
     have E4:(k:Int)+1<(N:Int):=by omega
     by_cases hd:S.data.toList[k+1]=10
     ·rw[hd]at G8 D0
      rw[g8 rfl]at D0;have L4:∀w,(Instr.index 9 (.string S) (.int .i64 ((k:Int)+1))).run Tryz.prog w=.ok (.int .u8 10) w:=G8;have L5:Hid (b3X w S.data.toList u3 (.int .i64 ((k+1:Nat):Int)) wr):=⟨k+1,O,by rw[D1.out];exact E3,rfl,HO.out,by omega,by rw[E1.out,D0],HB.out⟩
      clear G8 hd D0 E2 D2;go_wp2
      go_roundw
      case rel=>exact(show Value.int .i64 ((k+1:Nat):Int)=_ by go_num) ▸ L5.out
      case measure=>simp[intOf];omega
     ·rw[f6 (by simpa using hd)]at D0
      have G9:=a5X hd;have E5:((10:UInt8).toNat:Int)=10:=rfl;rw[E5]at G9;generalize S.data.toList[k+1].toNat=y at *;have M2:((y:Int) != 10)=true:=by simpa using G9
      have L6:((y:Int)==10)=false:=by simpa using G9
      have E6:Hid (C4 S.data.toList=(O++[10])++C4 (S.data.toList.drop (k+1))):=a3h E1.out D0;clear D0 hd E5 E2 D2
      go_wp2_with (at_builtin;refine P8 rfl _ _ rfl w.heap.size O u3 rfl HO.out G5 10 _ rfl rfl G6 ?_;intro v3 w3 D3 D9)
      have E7:=a8 D3;have E8:=a8 D9;clear D3 D9;go_wp2
      go_roundw
      case rel=>exact⟨k+1,O++[10],by rw[D1.out];exact E3,by go_num,E7.out,by rw[e8,j0];omega,E6.out,HB.out.trans E8.out⟩
      case measure=>simp[intOf];omega
    ·have L3:((k:Int)+1==(N:Int))=true:=by rw[x8];omega
     have E4:¬(k:Int)+1<(N:Int):=by omega
     have L7:=f8 E4;rw[List.getElem?_eq_none (by rw[D1.out];omega),f6 (by simp)]at D0
     have E6:Hid (C4 S.data.toList=(O++[10])++C4 (S.data.toList.drop (k+1))):=a3h E1.out D0;clear D0 E2
     go_wp2_with (at_builtin;refine P8 rfl _ _ rfl w.heap.size O u3 rfl HO.out G5 10 _ rfl rfl G6 ?_;intro v3 w3 D3 D9)
     have E7:=a8 D3;have E8:=a8 D9;clear D3 D9;go_wp2
     go_roundw
     case rel=>exact⟨k+1,O++[10],by rw[D1.out];exact E3,by go_num,E7.out,by rw[e8,j0];omega,E6.out,HB.out.trans E8.out⟩
     case measure=>simp[intOf];omega
   ·rw[f6 hc]at D0
    have E6:Hid (C4 S.data.toList=(O++[S.data.toList[k]])++C4 (S.data.toList.drop (k+1))):=a3h E1.out D0;have G1:=a5X hc;have J6:((13:UInt8).toNat:Int)=13:=rfl;rw[J6]at G1;clear D0 hc J6;generalize S.data.toList[k]=c at *;obtain⟨x,hx⟩ : ∃x,c.toNat=x:=⟨_,rfl⟩;rw[hx]at G1 G0;have HX:=a8 hx;have M3:((x:Int) != 13)=true:=by simpa using G1
    have L8:((x:Int)==13)=false:=by simpa using G1
    clear hx E2
    go_wp2_with (at_builtin;refine P8 rfl _ _ rfl w.heap.size O u3 rfl HO.out G5 c _ (by rw[HX.out]) rfl G6 ?_;intro v3 w3 D3 D9)
    have E7:=a8 D3;have E8:=a8 D9;clear D3 D9;go_wp2
    go_roundw
    case rel=>exact⟨k+1,O++[c],by rw[D1.out];exact E3,by go_num,E7.out,by rw[e8,j0];omega,E6.out,HB.out.trans E8.out⟩
    case measure=>simp[intOf];omega
  ·have J5:¬(k:Int)<(N:Int):=by omega
   have L9:=f8 J5;have E0:=E1.out;rw[F9 (by rw[D1.out];omega),show C4 []=[]from rfl,A7]at E0
   obtain⟨A',cap',hv,M4,M5,J7⟩:=HO.out.lies;have M0:=I4 cap' J7;have J8:(⟨O.toArray⟩ : ByteArray)=R:=by rw[<-E0];exact HR.out
   rw[J8]at M0;generalize O.length=n at *;subst hv;clear J7 E0 J8 HO E1;go_wp2;go_ret;exact⟨rfl,HB.out⟩
theorem a8N(S:ByteArray)(G4:S.size<=100000)(w:World):Calls Tryz.prog 46 #[.string S] w fun e w'=>e=.returned (.string ⟨(C4 S.data.toList).toArray⟩)/\Below w.heap.size w w':=by
 obtain⟨N,hN⟩ : ∃N,S.size=N:=⟨_,rfl⟩;have J1:S.data.toList.length=N:=by rw[<-j9];exact hN
 have D1:=a8 J1;rw[hN]at G4;obtain⟨R,hR⟩ : ∃R:ByteArray,⟨(C4 S.data.toList).toArray⟩=R:=⟨_,rfl⟩;rw[hR];have HR:=a8 hR;clear J1 hR;go_enter Tryz.func46,Tryz.ntmps46;go_wp2
 go_loopw [3,7] (b3X w S.data.toList) (fun _ i _=>N-(intOf i).toNat)
 case atStart=>exact⟨0,[],o4 _,rfl,Own.nil _ _,o4 _,by rw[List.drop_zero];rfl,b8 _ _⟩
 case round =>
  obtain⟨k,O,hk,rfl,hO,L6,J2,hb⟩:=hrel;rw[D1.out]at hk;have HO:=a8 hO;have E1:=a8 J2;have HB:=a8 hb;have G5:=hb.size;clear hO J2 hb;by_cases E3:k<N
  ·have E2:k<S.data.toList.length:=by rw[D1.out];exact E3
   have G0:=G7 S E2;have D0:=b0N E2;have J3:(k:Int)<(N:Int):=by omega
   have G6:O.length+1<=1000000000000:=by omega
   by_cases hc:S.data.toList[k]=13
   ·rw[hc]at G0 D0
    rw[g8 rfl]at D0;have J7:∀w,(Instr.index 9 (.string S) (.int .i64 (k:Int))).run Tryz.prog w=.ok (.int .u8 13) w:=G0;clear G0 hc;by_cases hl:k+1<N
    ·have D2:k+1<S.data.toList.length:=by rw[D1.out];exact hl
     have G8:=a6S S D2;rw[i5 D2]at D0;have J8:((k:Int)+1==(N:Int))=false:=by rw[e9];omega
     have E4:(k:Int)+1<(N:Int):=by omega
     by_cases hd:S.data.toList[k+1]=10
     ·rw[hd]at G8 D0
      rw[g8 rfl]at D0;have J9:∀w,(Instr.index 9 (.string S) (.int .i64 ((k:Int)+1))).run Tryz.prog w=.ok (.int .u8 10) w:=G8;have L0:Hid (b3X w S.data.toList u3 (.int .i64 ((k+1:Nat):Int)) wr):=⟨k+1,O,by rw[D1.out];exact E3,rfl,HO.out,by omega,by rw[E1.out,D0],HB.out⟩
      clear G8 hd D0 E2 D2;go_wp2
      go_roundw
      case rel=>exact(show Value.int .i64 ((k+1:Nat):Int)=_ by go_num) ▸ L0.out
      case measure=>simp[intOf];omega
     ·rw[f6 (by simpa using hd)]at D0
      have G9:=a5X hd;have E5:((10:UInt8).toNat:Int)=10:=rfl;rw[E5]at G9;generalize S.data.toList[k+1].toNat=y at *;have L7:((y:Int) != 10)=true:=by simpa using G9
      have L1:((y:Int)==10)=false:=by simpa using G9
      have E6:Hid (C4 S.data.toList=(O++[10])++C4 (S.data.toList.drop (k+1))):=a3h E1.out D0;clear D0 hd E5 E2 D2
      go_wp2_with (at_builtin;refine P8 rfl _ _ rfl w.heap.size O u3 rfl HO.out G5 10 _ rfl rfl G6 ?_;intro v3 w3 D3 D9)
      have E7:=a8 D3;have E8:=a8 D9;clear D3 D9;go_wp2
      go_roundw
      case rel=>exact⟨k+1,O++[10],by rw[D1.out];exact E3,by go_num,E7.out,by rw[e8,j0];omega,E6.out,HB.out.trans E8.out⟩
      case measure=>simp[intOf];omega
    ·have J8:((k:Int)+1==(N:Int))=true:=by rw[x8];omega
     have E4:¬(k:Int)+1<(N:Int):=by omega
     have L2:=f8 E4;rw[List.getElem?_eq_none (by rw[D1.out];omega),f6 (by simp)]at D0
     have E6:Hid (C4 S.data.toList=(O++[10])++C4 (S.data.toList.drop (k+1))):=a3h E1.out D0;clear D0 E2
     go_wp2_with (at_builtin;refine P8 rfl _ _ rfl w.heap.size O u3 rfl HO.out G5 10 _ rfl rfl G6 ?_;intro v3 w3 D3 D9)
     have E7:=a8 D3;have E8:=a8 D9;clear D3 D9;go_wp2
     go_roundw
     case rel=>exact⟨k+1,O++[10],by rw[D1.out];exact E3,by go_num,E7.out,by rw[e8,j0];omega,E6.out,HB.out.trans E8.out⟩
     case measure=>simp[intOf];omega
   ·rw[f6 hc]at D0
    have E6:Hid (C4 S.data.toList=(O++[S.data.toList[k]])++C4 (S.data.toList.drop (k+1))):=a3h E1.out D0;have G1:=a5X hc;have J4:((13:UInt8).toNat:Int)=13:=rfl;rw[J4]at G1;clear D0 hc J4;generalize S.data.toList[k]=c at *;obtain⟨x,hx⟩ : ∃x,c.toNat=x:=⟨_,rfl⟩;rw[hx]at G1 G0;have HX:=a8 hx;have L8:((x:Int) != 13)=true:=by simpa using G1
    have L3:((x:Int)==13)=false:=by simpa using G1
    clear hx E2
    go_wp2_with (at_builtin;refine P8 rfl _ _ rfl w.heap.size O u3 rfl HO.out G5 c _ (by rw[HX.out]) rfl G6 ?_;intro v3 w3 D3 D9)
    have E7:=a8 D3;have E8:=a8 D9;clear D3 D9;go_wp2
    go_roundw
    case rel=>exact⟨k+1,O++[c],by rw[D1.out];exact E3,by go_num,E7.out,by rw[e8,j0];omega,E6.out,HB.out.trans E8.out⟩
    case measure=>simp[intOf];omega
  ·have J3:¬(k:Int)<(N:Int):=by omega
   have L4:=f8 J3;have E0:=E1.out;rw[F9 (by rw[D1.out];omega),show C4 []=[]from rfl,A7]at E0
   obtain⟨A',cap',hv,L9,M0,J5⟩:=HO.out.lies;have L5:=I4 cap' J5;have J6:(⟨O.toArray⟩ : ByteArray)=R:=by rw[<-E0];exact HR.out
   rw[J6]at L5;generalize O.length=n at *;subst hv;clear J5 E0 J6 HO E1;go_wp2;go_ret;exact⟨rfl,HB.out⟩
end Go.Proofs.YtlgcigmolfhamaaGreatDoor
