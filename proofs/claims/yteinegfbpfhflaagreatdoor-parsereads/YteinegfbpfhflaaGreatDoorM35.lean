/-
  parse.read. Conditions: nothing is too long; upTo and behindDeclaration answer what they are to answer.
  parse.read: every node that it leaves is small: plain mathematics. Conditions: none.
  Lines ended: the program's and the document's. Conditions: the text is not too long.
-/
import Derived.Test.YteinegfbpfhflaaGreatDoorM34
import Derived.Test.YteinegfbpfhflaaGreatDoorM10
import Derived.Test.YteinegfbpfhflaaGreatDoorM24
namespace Go.Proofs.YteinegfbpfhflaaGreatDoor
open Go.RowKit
set_option linter.unusedVariables false
set_option maxRecDepth 100000
set_option maxHeartbeats 16000000
def ub(f:List UInt8->List UInt8):Prop:=∀(s:List UInt8) (w:World),s.length<=100000->Wd w->(f s).length<=s.length/\Calls Tryz.prog 50 #[.string (ba s)] w fun e w'=>e=.returned (.string (ba (f s)))/\Below w.heap.size w w'
def DX(T:Option (List Nd))(B:Nat)(e:Ending)(w':World):Prop:=match T with
 |none => ∃v,e=.returned (.tuple #[v,.bool false])
 |some ns => ∃rb st vn vo vd vt ys,eH w' B rb st vn vo vd vt ys/\st.ns=ns/\e=.returned (.tuple #[vn,.bool true])
theorem r9(w:World)(o:Obj):(w.alloc o).heap.size=w.heap.size+1:=by
 show(w.heap.push o).size=_
 exact Array.size_push _
theorem EN(w1:World)(B:Nat)(hB:B<=w1.heap.size)(S:List UInt8):eH (((w1.alloc (Obj.cells #[.int .i64 0,.int .i64 (-1),.string ⟨#[]⟩,.string ⟨#[]⟩,.string ⟨#[]⟩,.string ⟨#[]⟩,.slice none 0 0,.slice none 0 0] 42)).alloc (Obj.cells #[.int .i64 0,.string ⟨#[]⟩,.int .i64 0] 87)).alloc (Obj.cells #[.string (ba S),.slice (some ⟨w1.heap.size,0,none⟩) 1 1,.slice (some ⟨w1.heap.size+1,0,none⟩) 1 1,.slice none 0 0,.slice none 0 0] 90)) B (w1.heap.size+1+1) (oa S) (.slice (some ⟨w1.heap.size,0,none⟩) 1 1) (.slice (some ⟨w1.heap.size+1,0,none⟩) 1 1) (.slice none 0 0) (.slice none 0 0) [⟨cM,.slice none 0 0,.slice none 0 0⟩]:=by
 obtain⟨wa,ha⟩ : ∃wa,w1.alloc (Obj.cells #[.int .i64 0,.int .i64 (-1),.string ⟨#[]⟩,.string ⟨#[]⟩,.string ⟨#[]⟩,.string ⟨#[]⟩,.slice none 0 0,.slice none 0 0] 42)=wa:=⟨_,rfl⟩;have sa:wa.heap.size=w1.heap.size+1:=by rw[<-ha];exact r9 _ _
 have ra:wa.ownsRow B 42 8 (.slice (some ⟨w1.heap.size,0,none⟩) 1 1) 1 [.int .i64 0,.int .i64 (-1),.string ⟨#[]⟩,.string ⟨#[]⟩,.string ⟨#[]⟩,.string ⟨#[]⟩,.slice none 0 0,.slice none 0 0]:=by
  rw[<-ha];exact World.ownsRow_lit w1 _ 1 hB (by decide) rfl
 rw[ha];obtain⟨wb,hb⟩ : ∃wb,wa.alloc (Obj.cells #[.int .i64 0,.string ⟨#[]⟩,.int .i64 0] 87)=wb:=⟨_,rfl⟩;have sb:wb.heap.size=w1.heap.size+1+1:=by rw[<-hb,<-sa];exact r9 _ _
 have hab:Below wa.heap.size wa wb:=by rw[<-hb];exact(ae _ _).alloc (af _) _
 have rb:wb.ownsRow B 87 3 (.slice (some ⟨w1.heap.size+1,0,none⟩) 1 1) 1 [.int .i64 0,.string ⟨#[]⟩,.int .i64 0]:=by
  rw[<-hb,<-sa];exact World.ownsRow_lit wa _ 1 (by omega) (by decide) rfl
 rw[hb];have hbc:∀o,Below wb.heap.size wb (wb.alloc o):=fun o=>(ae _ _).alloc (af _) _;refine⟨by omega,by rw[<-sb];exact ar wb _,rfl,dh (dh ra hab) (hbc _),dh rb (hbc _),aQ _ _ _ _,aQ _ _ _ _,?_,?_⟩
 ·intro y hy
  rw[aW]at hy;subst hy;exact⟨aQ _ _ _ _,aQ _ _ _ _⟩
 ·intro y hy
  rw[aW]at hy;subst hy;exact .inl rfl
theorem Jb{w w1:World}{B:Nat}(hB:B<=w.heap.size)(h:Below B w w1)(o1 o2 o3:Obj):Below B w (((w1.alloc o1).alloc o2).alloc o3):=by
 have a:=h.alloc (ag hB h.size) o1;have b:=a.alloc (ag hB a.size) o2;exact b.alloc (ag hB b.size) o3
def zr(w0:World)(B rb:Nat)(T:Option (List Nd))(v:Value)(wr:World):Prop:=∃(n:Nat) (st:Rd),BS 100000 st/\st.rest.length<n/\fC n st=T/\dS wr B rb st/\Below B w0 wr
theorem Cw(hU:gm){f:List UInt8->List UInt8}(hF:ub f)(w:World)(s:List UInt8)(hs:s.length<=100000)(hB : 8<=w.heap.size)(hW:Wd w)(T:Option (List Nd))(hT:fC ((f s).length+1) (oa (f s))=T) :
 Calls Tryz.prog 28 #[.string (ba s)] w fun e w'=>DX T w.heap.size e w'/\Below w.heap.size w w':=by
 have HU:=aa hU;obtain⟨hfl,hbd⟩:=hF s w hs hW;have HBD:=aa hbd;have HT:=aa hT;have HW:=aa hW;clear hU hbd hF hT hW;obtain⟨S,hS⟩ : ∃S,f s=S:=⟨_,rfl⟩;rw[hS]at HBD HT hfl;clear hS;obtain⟨B,hB0⟩ : ∃B,w.heap.size=B:=⟨_,rfl⟩;rw[hB0]at HBD hB ⊢;have hBs:B<=w.heap.size:=by omega
 clear hB0;go_enter Tryz.func28,Tryz.ntmps28
 go_wp2_with fail
 refine HBD.out.mono ?_;rintro e w1⟨rfl,hb1⟩;have HB1:=aa hb1;have hB1:B<=w1.heap.size:=ag hBs hb1.size;clear hb1
 go_wp2_with fail
 have HIN:=aa (EN w1 B hB1 S);have HBL:=aa (fun(o1 o2 o3:Obj)=>Jb hBs HB1.out o1 o2 o3);have HREL:Hid (∀w2 rb,dS w2 B rb (oa S)->Below B w w2->zr w B rb T undef w2):=fun w2 rb h1 h2=>⟨_,oa S,(Gx S).mono (by omega),Nat.lt_succ_self _,HT.out,h1,h2⟩
 clear HT;obtain⟨rb,hrb⟩ : ∃rb,w1.heap.size+1+1=rb:=⟨_,rfl⟩;rw[hrb]at HIN ⊢
 go_loopw [16] (zr w B rb T) (fun _ wr=>lI wr rb)
 case atStart=>exact HREL.out _ rb ⟨_,_,_,_,_,HIN.out⟩ (HBL.out _ _ _)
 case round =>
  clear HREL HIN HBL HBD HB1;obtain⟨n,st,hp,hn,hT,hrd,hb⟩:=hrel;have HB:=aa hb;have HP:=aa hp;have HRA:=aa hrd;clear hb hp;obtain⟨vn,vo,vd,vt,ys,hrm⟩:=hrd;have HRM:=aa hrm;have c0:=hrm.cell.1;have c1:=hrm.cell.2.1;have hml:lI wr rb=st.rest.length:=oJ hrm;have HML:=aa hml;clear hrm hml;cases n with
  |zero=>omega
  |succ n =>
  rw[fC]at hT;by_cases hz:st.rest=[]
  ·rw[av hz]at hT
   rw[hz]at c0;replace c0:wr.cell? ⟨rb,0,none⟩=some (.string ⟨#[]⟩):=c0;have HQ:Hid (∀m,Calls Tryz.prog 52 #[.pointer (some ⟨rb,0,none⟩)] (wr.drewN m) fun e w''=>e=.returned (.bool (decide (st.op.length=1)))/\w''=wr.drewN m):=fun m=>eM (wr.drewN m) B rb st (HRA.out.below (ay (ae _ _) m))
   have HTT:Hid (∀m,DX T B (.returned (.tuple #[vn,.bool (decide (st.op.length=1))])) (wr.drewN m)):=fun m=>by
    rw[<-hT];by_cases h1:st.op.length=1
    ·rw[av h1,ax h1]
     exact⟨rb,st,vn,vo,vd,vt,ys,HRM.out.below (ay (ae _ _) m),rfl,rfl⟩
    ·rw[am h1,ap h1]
     exact⟨vn,rfl⟩
   clear hT hz;generalize decide (st.op.length=1)=Bz at *
   go_wp2_with fail
   go_quiet ((go_at_call 52;exact Calls.quiet_of_same (HQ.out _)))
   go_wp2
   go_ret2
   exact⟨HTT.out _,ay HB.out _⟩
  ·rw[am hz]at hT
   obtain⟨fr,o,ho⟩ : ∃fr o,st.op=fr++[o]:=⟨st.op.dropLast,st.op.getLast HP.out.ne,(List.dropLast_concat_getLast HP.out.ne).symm⟩;rw[ho,List.getLast?_concat,List.dropLast_concat]at hT;dsimp only at hT;have hpo:=HP.out;have HNX:=aa (CN HU.out wr B rb st fr o ho (hpo.out o (by rw[ho];exact List.mem_append_right _ (List.mem_singleton_self _))) hpo.pr (by have:=hpo.pn;omega) (by have:=hpo.po;omega) (by have:=hpo.pd;omega) (by have:=hpo.pt;omega) HRA.out hB (HW.out.low hB HB.out))
   have t0:(ba st.rest).toList≠[]:=by rw[aq,bp];exact hz
   have t1:((ba st.rest).toList == [])=false:=by rw[ak];exact t0
   have HZ:=aa hz;clear hz hpo;cases hx:dC st fr o with
   |none =>
    rw[hx]at hT HNX;have HTT:=aa hT;clear hT hx ho
    go_wp2_with fail
    refine HNX.out.mono ?_;rintro e w2⟨rfl,hb2⟩;have HB2:=aa (HB.out.trans hb2);clear hb2;go_wp2
    go_ret2
    exact⟨by rw[<-HTT.out];exact⟨_,rfl⟩,HB2.out⟩
   |some st' =>
    rw[hx]at hT HNX;obtain⟨hp',hlt⟩:=uY HP.out ho HZ.out hx;have HTT:=aa hT;have HP':=aa hp';clear hT hx ho hp'
    go_wp2_with fail
    refine HNX.out.mono ?_;rintro e w2⟨⟨rfl,hrd'⟩,hb2⟩;have HB2:=aa (HB.out.trans hb2);have HRD':=aa hrd';clear hb2 hrd';go_wp2
    go_roundw
    case rel=>exact⟨n,st',HP'.out,by omega,HTT.out,HRD'.out,HB2.out⟩
    case measure =>
     rw[HML.out];obtain⟨_,_,_,_,_,h⟩:=HRD'.out;rw[oJ h];exact hlt
def IQ(d:Dc):Prop:=d.p.size<=2000000/\d.u.size<=2000000
structure mQ(st:Rd):Prop where
 ns:∀x∈st.ns,Sm x
 ds:∀d∈st.ds,IQ d
theorem fx:(⟨#[]⟩ : ByteArray).size<=2000000:=aM _
theorem ui{x:Nd}{n:Nat}(h:Sm x):Sm (cy x n):=⟨h.p,h.l,h.u,h.t,h.nd,h.na,h.ds,h.ats⟩
theorem jH{k n:Int}{l t:ByteArray}(hl:l.size<=2000000)(ht:t.size<=2000000):Sm ⟨k,n,⟨#[]⟩,l,⟨#[]⟩,t,[],[]⟩:=⟨fx,hl,fx,ht,aM _,aM _,fun d hd=>(by cases hd),fun a ha=>(by cases ha)⟩
theorem gK{l:List UInt8}(h:l.length<=2000000):(ba l).size<=2000000:=by rw[cV];exact h
theorem y8{st:Rd}{o:Po}(h:mQ st)(ht:st.tx.length<=2000000):mQ (ed st o):=by
 refine⟨fun x hx => ?_,h.ds⟩;have hx':x∈st.ns++(if st.tx=[]then[]else[cy (m9 st.tx) o.node]):=hx;rw[bS]at hx';rcases hx' with hx'|hx'
 ·exact h.ns x hx'
 ·split at hx'
  ·cases hx'
  ·rw[aW]at hx'
   subst hx';exact ui (jH fx (gK ht))
theorem t7{st:Rd}{o:Po}{x:Nd}(h:mQ st)(ht:st.tx.length<=2000000)(hx:Sm x):mQ (iw st o x):=by
 refine⟨fun y hy => ?_,h.ds⟩;have hy':y∈(ed st o).ns++[cy x o.node]:=hy;rw[bS,aW]at hy';rcases hy' with hy'|rfl
 ·exact(y8 h ht).ns y hy'
 ·exact ui hx
theorem u5{ds:List Dc}{p:ByteArray}(h:∀d∈ds,IQ d):(f8 ds p).size<=2000000:=by
 unfold f8
 split
 ·decide
 ·cases hf:fU ds.reverse p.data.toList with
  |none=>exact fx
  |some u =>
   unfold fU at hf;obtain⟨d,hd,rfl⟩:=Option.map_eq_some_iff.1 hf;have:=List.mem_of_find?_eq_some hd;exact(h d (List.mem_reverse.1 this)).2
theorem G0{ds:List Dc}{x:Nd}(h:∀d∈ds,IQ d)(hx:Sm x):Sm (Ef ds x):=by
 refine⟨hx.p,hx.l,u5 h,hx.t,hx.nd,by show(x.ats.map (iU ds)).length<=_;rw[bN];exact hx.na,hx.ds,fun a ha => ?_⟩
 have ha':a∈x.ats.map (iU ds):=ha;obtain⟨b,hb,rfl⟩:=List.mem_map.1 ha';obtain⟨h1,h2,h3,h4⟩:=hx.ats b hb;unfold iU
 split
 ·exact⟨h1,h2,h3,h4⟩
 ·exact⟨h1,h2,u5 h,h4⟩
theorem zm{st:Rd}{o:Po}{x:Nd}{full:List UInt8}(h:mQ st)(ht:st.tx.length<=2000000)(hx:Sm x):mQ (jp st o x full):=by
 have hd:∀d∈st.ds++x.ds,IQ d:=fun d hd=>by
  rw[bS]at hd;rcases hd with hd|hd
  ·exact h.ds d hd
  ·exact hx.ds d hd
 have:=t7 (o:=o) (st:={ st with ds:=st.ds++x.ds }) ⟨h.ns,hd⟩ ht (G0 hd hx);exact⟨this.ns,hd⟩
theorem zk{st:Rd}{fr:List Po}{o:Po}(h:mQ st)(ht:st.tx.length<=2000000):mQ (qi st fr o):=⟨(y8 (o:=o) h ht).ns,fun d hd=>h.ds d (List.mem_of_mem_take hd)⟩
theorem ux{s p l:List UInt8}(h:dL s=some (p,l)):p.length<=s.length/\l.length<=s.length:=by
 unfold dL at h
 split at h
 ·next hx =>
  simp only[al]at h;have:=hx.choose_spec;rw[h]at this;rcases this with⟨rfl,rfl,_⟩|⟨_,_,h3⟩
  ·exact⟨aM _,af _⟩
  ·rw[h3];simp only[aj,az];omega
 ·cases h
theorem zp{x:Nd}{p l:List UInt8}{v:ByteArray}(hx:Sm x)(hn:x.ds.length+x.ats.length<=1000000)(hp:p.length<=2000000)(hl:l.length<=2000000)(hv:v.size<=2000000):Sm (fj x p l v):=by
 have hd:∀(q:ByteArray),q.size<=2000000->Sm { x with ds:=x.ds++[⟨q,v⟩] }:=fun q hq=>⟨hx.p,hx.l,hx.u,hx.t,by show(x.ds++[_]).length<=_;rw[aj,aB];omega,hx.na,fun d hd=>by
  have hd':d∈x.ds++[⟨q,v⟩]:=hd;rw[bS,aW]at hd';rcases hd' with h|rfl
  ·exact hx.ds d h
  ·exact⟨hq,hv⟩,hx.ats⟩
 unfold fj
 split
 ·exact hd _ fx
 ·split
  ·exact hd _ (gK hl)
  ·refine⟨hx.p,hx.l,hx.u,hx.t,hx.nd,by show(x.ats++[_]).length<=_;rw[aj,aB];omega,hx.ds,fun a ha => ?_⟩
   have ha':a∈x.ats++[⟨ba p,ba l,⟨#[]⟩,v⟩]:=ha;rw[bS,aW]at ha';rcases ha' with h|rfl
   ·exact hx.ats a h
   ·exact⟨gK hp,gK hl,fx,hv⟩
theorem CU{s r:List UInt8}{x x':Nd}(hs:s.length<=100000)(hx:Sm x)(hn:x.ds.length+x.ats.length<=1000000)(h:eV s x=some (r,x')):Sm x':=by
 unfold eV at h;cases h1:dL (cE bd s)with
 |none=>rw[h1]at h;cases h
 |some q =>
  obtain⟨p,l⟩:=q;rw[h1]at h;dsimp only at h;cases h2:fe (c9 bd s)with
  |none=>rw[h2]at h;cases h
  |some r2 =>
   rw[h2]at h;dsimp only at h;cases h3:e9 r2 with
   |none=>rw[h3]at h;cases h
   |some q2 =>
    obtain⟨q,r3⟩:=q2;rw[h3]at h;dsimp only at h;cases h4:fA q with
    |none=>rw[h4]at h;cases h
    |some v =>
     rw[h4]at h;simp only[al,Prod.mk.injEq]at h;obtain⟨rfl,rfl⟩:=h;have ha:=gN bd s;have hb:=gM bd s;have hsp:=ux h1;have he:=gh h2;have hq:=il h3;have hv:=BV h4;exact zp hx hn (by omega) (by omega) (gK (by omega))
theorem yu(full:List UInt8)(o:Po):∀(n:Nat) (st st':Rd) (x:Nd),mQ st->st.tx.length<=2000000->Sm x->st.rest.length+x.ds.length+x.ats.length<=100000->lr full o n st x=some st'->mQ st'
 |0,st,st',x,_,_,_,_,h=>by cases h
 |n+1,st,st',x,hs,ht,hx,hl,h=>by
  rw[lr]at h;have hb:=cB st.rest;cases h1:aH [62] (aI st.rest)with
  |some r =>
   rw[h1]at h;simp only[al]at h;subst h;exact zm (st:={ st with rest:=r }) ⟨hs.ns,hs.ds⟩ ht hx
  |none =>
   rw[h1]at h;dsimp only at h;cases h2:aH [47,62] (aI st.rest)with
   |some r =>
    rw[h2]at h;simp only[al]at h;subst h;exact zk (zm (st:={ st with rest:=r }) ⟨hs.ns,hs.ds⟩ ht hx) (aM _)
   |none =>
    rw[h2]at h;dsimp only at h
    split at h
    ·cases hm:eV (aI st.rest) x with
     |none=>rw[hm]at h;cases h
     |some q =>
      obtain⟨r,x'⟩:=q;rw[hm]at h;dsimp only at h;have hml:=kS hm;exact yu full o n { st with rest:=r } st' x' ⟨hs.ns,hs.ds⟩ ht (CU (by omega) hx (by omega) hm) (by dsimp only;omega) h
    ·cases h
theorem EV{st st':Rd}{fr:List Po}{o:Po}(hp:BS 100000 st)(hs:mQ st)(hn:dC st fr o=some st'):mQ st':=by
 have ht:st.tx.length<=2000000:=by have:=hp.pt;omega
 have hr:=hp.pr;unfold dC at hn;cases h1:aH [60,33,45,45] st.rest with
 |some r =>
  rw[h1]at hn;dsimp only at hn;unfold mG at hn;have hl:=cx h1
  split at hn
  ·cases hn
  ·next p r' hc =>
   simp only[al]at hn;subst hn;have:=dW hc;dsimp only at this;exact t7 (st:={ st with rest:=r' }) ⟨hs.ns,hs.ds⟩ ht (jH fx (gK (by omega)))
 |none =>
 rw[h1]at hn;dsimp only at hn;cases h2:aH [60,33,91,67,68,65,84,65,91] st.rest with
 |some r =>
  rw[h2]at hn;dsimp only at hn;unfold nB at hn
  split at hn
  ·cases hn
  ·split at hn
   ·cases hn
   ·simp only[al]at hn
    subst hn;exact⟨hs.ns,hs.ds⟩
 |none =>
 rw[h2]at hn;dsimp only at hn;cases h3:aH [60,63] st.rest with
 |some r =>
  rw[h3]at hn;dsimp only at hn;unfold kh at hn;have hl:=cx h3
  split at hn
  ·cases hn
  ·next p r' hc =>
   simp only[al]at hn;subst hn;have:=dW hc;dsimp only at this;have h1:=gN [32,9,10] p;have h2:=gM [32,9,10] p;have h3:=cB (c9 [32,9,10] p);exact t7 (st:={ st with rest:=r' }) ⟨hs.ns,hs.ds⟩ ht (jH (gK (by omega)) (gK (by omega)))
 |none =>
 rw[h3]at hn;dsimp only at hn;cases h4:aH [60,47] st.rest with
 |some r =>
  rw[h4]at hn;dsimp only at hn;unfold gd at hn
  split at hn
  ·cases hn
  ·split at hn
   ·cases hn
   ·split at hn
    ·cases hn
    ·next r1 _ _ r2 _ =>
     simp only[al]at hn;subst hn;have:=zk (st:={ st with rest:=aI r1 }) (fr:=fr) (o:=o) ⟨hs.ns,hs.ds⟩ ht;exact⟨this.ns,this.ds⟩
 |none =>
 rw[h4]at hn;dsimp only at hn;cases h5:aH [60] st.rest with
 |some r =>
  rw[h5]at hn;dsimp only at hn;unfold lq at hn;have hl:=cx h5
  split at hn
  ·cases hn
  ·next p l hsp =>
   have h6:=ux hsp;have h7:=gN bd r;have h8:=gM bd r;dsimp only at h6 h7 h8;refine yu _ _ _ { st with rest:=c9 bd r } st' ⟨1,0,ba p,ba l,⟨#[]⟩,⟨#[]⟩,[],[]⟩ ⟨hs.ns,hs.ds⟩ ht ?_ ?_ hn
   ·exact⟨gK (l:=p) (by omega),gK (l:=l) (by omega),fx,fx,aM _,aM _,fun d hd=>(by cases hd),fun a ha=>(by cases ha)⟩
   ·show(c9 bd r).length+0+0<=_;omega
 |none =>
 rw[h5]at hn;dsimp only at hn;unfold lS at hn
 split at hn
 ·split at hn
  ·simp only[al]at hn
   subst hn;exact⟨hs.ns,hs.ds⟩
  ·cases hn
 ·split at hn
  ·cases hn
  ·simp only[al]at hn
   subst hn;exact⟨hs.ns,hs.ds⟩
theorem px:∀(n m:Nat) (st:Rd) (l:List Nd),m<=100000->BS m st->mQ st->fC n st=some l->(∀x∈l,Sm x)/\l.length<=2*m+1
 |0,m,st,l,_,_,_,h=>by cases h
 |n+1,m,st,l,hm,hp,hs,h=>by
  rw[fC]at h
  split at h
  ·split at h
   ·simp only[al]at h
    subst h;exact⟨hs.ns,by have:=hp.pn;omega⟩
   ·cases h
  ·next hz =>
   obtain⟨fr,o,ho⟩ : ∃fr o,st.op=fr++[o]:=⟨st.op.dropLast,st.op.getLast hp.ne,(List.dropLast_concat_getLast hp.ne).symm⟩;rw[ho,List.getLast?_concat,List.dropLast_concat]at h;dsimp only at h;cases hx:dC st fr o with
   |none=>rw[hx]at h;cases h
   |some st' =>
    rw[hx]at h;exact px n m st' l hm (uY hp ho hz hx).1 (EV (hp.mono hm) hs hx) h
theorem IX(s:List UInt8):mQ (oa s):=⟨fun x hx=>by
 have:x∈[cM]:=hx;rw[aW]at this;subst this;exact jH fx fx,fun d hd=>by cases hd⟩
theorem CW(N:Nat)(hN:N<=1000000)(W:World):∃W',(Instr.makeSlice 22 (.int .i64 0) (.int .i64 (N:Int))).run Tryz.prog W=.ok (.slice (some ⟨W.heap.size,0,none⟩) 0 N) W'/\iW W' W.heap.size (.slice (some ⟨W.heap.size,0,none⟩) 0 N) []/\Below W.heap.size W W':=by
 obtain⟨i0,hi,hz0,hz1,hz2⟩:=info_parts oM;have h:=run_make (P:=Tryz.prog) W 22 5 i0 (.int .u8 0) Tryz.underlying22 hi hz0 .i64 .i64 (0:Int) (N:Int) (by omega) (by omega) (by rw[hz2];omega) (by omega)
 have hM:(madeCells (Value.int .u8 0).cells (((N:Nat):Int).toNat*i0.size)).size=N:=by rw[size_madeCells,hz1];simp
 generalize madeCells (Value.int .u8 0).cells (((N:Nat):Int).toNat*i0.size)=M at *;refine⟨W.alloc (.cells M 5),by simpa using h,.inr ⟨W.heap.size,N,rfl,af _,by simp,aM _,by omega,fun j hj=>⟨?_,frozen_of_row _ _ j M 5 (ar W _)⟩,fun j u hu=>by simp[ec]at hu⟩,(ae _ _).alloc (af _) _⟩
 rw[ai _ _ j _ _ _ (ar W _),aX (by omega)];rfl
def zu(w:World)(s:List UInt8)(v i:Value)(wr:World):Prop :=
 ∃(k:Nat) (O:List UInt8),k<=s.length/\i=.int .i64 (k:Int)/\iW wr w.heap.size v O/\O.length<=k/\bJ s=O++bJ (s.drop k)/\Below w.heap.size w wr
theorem vk{s:List UInt8}{k:Nat}(h:k<s.length):bJ (s.drop k)=if s[k]=13 then(if s[k+1]? = some 10 then bJ (s.drop (k+1))else 10::bJ (s.drop (k+1)))else s[k]::bJ (s.drop (k+1)):=by
 rw[bv h,xD,List.head?_drop]
theorem kT{O T R:List UInt8}{c:UInt8}{s:List UInt8}(h:bJ s=O++T)(h2:T=c::R):bJ s=(O++[c])++R:=by rw[h,h2];simp
theorem pT(S:ByteArray){k:Nat}(h:k+1<S.data.toList.length)(w:World):(Instr.index 9 (.string S) (.int .i64 ((k:Int)+1))).run Tryz.prog w=.ok (.int .u8 ((S.data.toList[k+1].toNat:Nat):Int)) w:=by
 have:=cz S h w;simpa using this
theorem oL{c d:UInt8}(h:c≠d):¬(c.toNat:Int)=(d.toNat:Int):=fun e=>h (cK.1 (by omega))
theorem AG(S:ByteArray)(hlen:S.size<=100000)(w:World):Calls Tryz.prog 29 #[.string S] w fun e w'=>e=.returned (.string ⟨(bJ S.data.toList).toArray⟩)/\Below w.heap.size w w':=by
 obtain⟨N,hN⟩ : ∃N,S.size=N:=⟨_,rfl⟩;have hNl:S.data.toList.length=N:=by rw[<-aF];exact hN
 have HNL:=aa hNl;rw[hN]at hlen;obtain⟨R,hR⟩ : ∃R:ByteArray,⟨(bJ S.data.toList).toArray⟩=R:=⟨_,rfl⟩;rw[hR];have HR:=aa hR;clear hNl hR;obtain⟨W,hmk,hO0,hb0⟩:=CW N (by omega) w
 have HO0:=aa hO0;have HB0:=aa hb0;clear hO0 hb0;go_enter Tryz.func29,Tryz.ntmps29;go_wp2;clear hmk
 go_loopw [3,10] (zu w S.data.toList) (fun _ i _=>N-(intOf i).toNat)
 case atStart=>exact⟨0,[],aM _,rfl,HO0.out,aM _,by rw[List.drop_zero];rfl,HB0.out⟩
 case round =>
  obtain⟨k,O,hk,rfl,hO,hOl,hln,hb⟩:=hrel;rw[HNL.out]at hk;have HO:=aa hO;have HLN:=aa hln;have HB:=aa hb;have hbs:=hb.size;clear hO hln hb;by_cases hlt:k<N
  ·have hkl:k<S.data.toList.length:=by rw[HNL.out];exact hlt
   have hix:=cz S hkl;have hat:=vk hkl;have hkz:(k:Int)<(N:Int):=by omega
   have hOn:O.length+1<=1000000000000:=by omega
   by_cases hc:S.data.toList[k]=13
   ·rw[hc]at hix hat
    rw[av rfl]at hat;have hix':∀w,(Instr.index 9 (.string S) (.int .i64 (k:Int))).run Tryz.prog w=.ok (.int .u8 13) w:=hix;clear hix hc;by_cases hl:k+1<N
    ·have hkl1:k+1<S.data.toList.length:=by rw[HNL.out];exact hl
     have hiy:=pT S hkl1;rw[aw hkl1]at hat;have hle:((k:Int)+1==(N:Int))=false:=by rw[ak];omega
     have hle2:(k:Int)+1<(N:Int):=by omega
     by_cases hd:S.data.toList[k+1]=10
     ·rw[hd]at hiy hat
      rw[av rfl]at hat;have hiy':∀w,(Instr.index 9 (.string S) (.int .i64 ((k:Int)+1))).run Tryz.prog w=.ok (.int .u8 10) w:=hiy;have HNX:Hid (zu w S.data.toList u3 (.int .i64 ((k+1:Nat):Int)) wr):=⟨k+1,O,by rw[HNL.out];exact hlt,rfl,HO.out,by omega,by rw[HLN.out,hat],HB.out⟩
      clear hiy hd hat hkl hkl1;go_wp2
      go_roundw
      case rel=>exact(show Value.int .i64 ((k+1:Nat):Int)=_ by go_num) ▸ HNX.out
      case measure=>simp[intOf];omega
     ·rw[am (by simpa using hd)]at hat
      have hdz:=oL hd;have hd10:((10:UInt8).toNat:Int)=10:=rfl;rw[hd10]at hdz;generalize S.data.toList[k+1].toNat=y at *;have hdb:((y:Int) != 10)=true:=by simpa using hdz
      have hdb2:((y:Int)==10)=false:=by simpa using hdz
      have HAT:Hid (bJ S.data.toList=(O++[10])++bJ (S.data.toList.drop (k+1))):=kT HLN.out hat;clear hat hd hd10 hkl hkl1
      go_wp2_with (at_builtin;refine ez rfl _ _ rfl w.heap.size O u3 rfl HO.out hbs 10 _ rfl rfl hOn ?_;intro v3 w3 hO3 hb3)
      have HO3:=aa hO3;have HB3:=aa hb3;clear hO3 hb3;go_wp2
      go_roundw
      case rel=>exact⟨k+1,O++[10],by rw[HNL.out];exact hlt,by go_num,HO3.out,by rw[aj,aB];omega,HAT.out,HB.out.trans HB3.out⟩
      case measure=>simp[intOf];omega
    ·have hle:((k:Int)+1==(N:Int))=true:=by rw[bc];omega
     have hle2:¬(k:Int)+1<(N:Int):=by omega
     have hle3:=ap hle2;rw[List.getElem?_eq_none (by rw[HNL.out];omega),am (by simp)]at hat
     have HAT:Hid (bJ S.data.toList=(O++[10])++bJ (S.data.toList.drop (k+1))):=kT HLN.out hat;clear hat hkl
     go_wp2_with (at_builtin;refine ez rfl _ _ rfl w.heap.size O u3 rfl HO.out hbs 10 _ rfl rfl hOn ?_;intro v3 w3 hO3 hb3)
     have HO3:=aa hO3;have HB3:=aa hb3;clear hO3 hb3;go_wp2
     go_roundw
     case rel=>exact⟨k+1,O++[10],by rw[HNL.out];exact hlt,by go_num,HO3.out,by rw[aj,aB];omega,HAT.out,HB.out.trans HB3.out⟩
     case measure=>simp[intOf];omega
   ·rw[am hc]at hat
    have HAT:Hid (bJ S.data.toList=(O++[S.data.toList[k]])++bJ (S.data.toList.drop (k+1))):=kT HLN.out hat;have hcz:=oL hc;have h13:((13:UInt8).toNat:Int)=13:=rfl;rw[h13]at hcz;clear hat hc h13;generalize S.data.toList[k]=c at *;obtain⟨x,hx⟩ : ∃x,c.toNat=x:=⟨_,rfl⟩;rw[hx]at hcz hix;have HX:=aa hx;have hcb:((x:Int) != 13)=true:=by simpa using hcz
    have hcb2:((x:Int)==13)=false:=by simpa using hcz
    clear hx hkl
    go_wp2_with (at_builtin;refine ez rfl _ _ rfl w.heap.size O u3 rfl HO.out hbs c _ (by rw[HX.out]) rfl hOn ?_;intro v3 w3 hO3 hb3)
    have HO3:=aa hO3;have HB3:=aa hb3;clear hO3 hb3;go_wp2
    go_roundw
    case rel=>exact⟨k+1,O++[c],by rw[HNL.out];exact hlt,by go_num,HO3.out,by rw[aj,aB];omega,HAT.out,HB.out.trans HB3.out⟩
    case measure=>simp[intOf];omega
  ·have hkz:¬(k:Int)<(N:Int):=by omega
   have hkz1:=ap hkz;have hfin:=HLN.out;rw[cj (by rw[HNL.out];omega),show bJ []=[]from rfl,bo]at hfin
   obtain⟨A',cap',hv,hcl,hcm,hli⟩:=HO.out.lies;have hcv:=cF cap' hli;have hOR:(⟨O.toArray⟩ : ByteArray)=R:=by rw[<-hfin];exact HR.out
   rw[hOR]at hcv;generalize O.length=n at *;subst hv;clear hli hfin hOR HO HLN;go_wp2;go_ret;exact⟨rfl,HB.out⟩
theorem sH(S:ByteArray)(hlen:S.size<=100000)(w:World):Calls Tryz.prog 32 #[.string S] w fun e w'=>e=.returned (.string ⟨(bJ S.data.toList).toArray⟩)/\Below w.heap.size w w':=by
 obtain⟨N,hN⟩ : ∃N,S.size=N:=⟨_,rfl⟩;have hNl:S.data.toList.length=N:=by rw[<-aF];exact hN
 have HNL:=aa hNl;rw[hN]at hlen;obtain⟨R,hR⟩ : ∃R:ByteArray,⟨(bJ S.data.toList).toArray⟩=R:=⟨_,rfl⟩;rw[hR];have HR:=aa hR;clear hNl hR;go_enter Tryz.func32,Tryz.ntmps32;go_wp2
 go_loopw [3,7] (zu w S.data.toList) (fun _ i _=>N-(intOf i).toNat)
 case atStart=>exact⟨0,[],aM _,rfl,iW.nil _ _,aM _,by rw[List.drop_zero];rfl,ae _ _⟩
 case round =>
  obtain⟨k,O,hk,rfl,hO,hOl,hln,hb⟩:=hrel;rw[HNL.out]at hk;have HO:=aa hO;have HLN:=aa hln;have HB:=aa hb;have hbs:=hb.size;clear hO hln hb;by_cases hlt:k<N
  ·have hkl:k<S.data.toList.length:=by rw[HNL.out];exact hlt
   have hix:=cz S hkl;have hat:=vk hkl;have hkz:(k:Int)<(N:Int):=by omega
   have hOn:O.length+1<=1000000000000:=by omega
   by_cases hc:S.data.toList[k]=13
   ·rw[hc]at hix hat
    rw[av rfl]at hat;have hix':∀w,(Instr.index 9 (.string S) (.int .i64 (k:Int))).run Tryz.prog w=.ok (.int .u8 13) w:=hix;clear hix hc;by_cases hl:k+1<N
    ·have hkl1:k+1<S.data.toList.length:=by rw[HNL.out];exact hl
     have hiy:=pT S hkl1;rw[aw hkl1]at hat;have hle:((k:Int)+1==(N:Int))=false:=by rw[ak];omega
     have hle2:(k:Int)+1<(N:Int):=by omega
     by_cases hd:S.data.toList[k+1]=10
     ·rw[hd]at hiy hat
      rw[av rfl]at hat;have hiy':∀w,(Instr.index 9 (.string S) (.int .i64 ((k:Int)+1))).run Tryz.prog w=.ok (.int .u8 10) w:=hiy;have HNX:Hid (zu w S.data.toList u3 (.int .i64 ((k+1:Nat):Int)) wr):=⟨k+1,O,by rw[HNL.out];exact hlt,rfl,HO.out,by omega,by rw[HLN.out,hat],HB.out⟩
      clear hiy hd hat hkl hkl1;go_wp2
      go_roundw
      case rel=>exact(show Value.int .i64 ((k+1:Nat):Int)=_ by go_num) ▸ HNX.out
      case measure=>simp[intOf];omega
     ·rw[am (by simpa using hd)]at hat
      have hdz:=oL hd;have hd10:((10:UInt8).toNat:Int)=10:=rfl;rw[hd10]at hdz;generalize S.data.toList[k+1].toNat=y at *;have hdb:((y:Int) != 10)=true:=by simpa using hdz
      have hdb2:((y:Int)==10)=false:=by simpa using hdz
      have HAT:Hid (bJ S.data.toList=(O++[10])++bJ (S.data.toList.drop (k+1))):=kT HLN.out hat;clear hat hd hd10 hkl hkl1
      go_wp2_with (at_builtin;refine ez rfl _ _ rfl w.heap.size O u3 rfl HO.out hbs 10 _ rfl rfl hOn ?_;intro v3 w3 hO3 hb3)
      have HO3:=aa hO3;have HB3:=aa hb3;clear hO3 hb3;go_wp2
      go_roundw
      case rel=>exact⟨k+1,O++[10],by rw[HNL.out];exact hlt,by go_num,HO3.out,by rw[aj,aB];omega,HAT.out,HB.out.trans HB3.out⟩
      case measure=>simp[intOf];omega
    ·have hle:((k:Int)+1==(N:Int))=true:=by rw[bc];omega
     have hle2:¬(k:Int)+1<(N:Int):=by omega
     have hle3:=ap hle2;rw[List.getElem?_eq_none (by rw[HNL.out];omega),am (by simp)]at hat
     have HAT:Hid (bJ S.data.toList=(O++[10])++bJ (S.data.toList.drop (k+1))):=kT HLN.out hat;clear hat hkl
     go_wp2_with (at_builtin;refine ez rfl _ _ rfl w.heap.size O u3 rfl HO.out hbs 10 _ rfl rfl hOn ?_;intro v3 w3 hO3 hb3)
     have HO3:=aa hO3;have HB3:=aa hb3;clear hO3 hb3;go_wp2
     go_roundw
     case rel=>exact⟨k+1,O++[10],by rw[HNL.out];exact hlt,by go_num,HO3.out,by rw[aj,aB];omega,HAT.out,HB.out.trans HB3.out⟩
     case measure=>simp[intOf];omega
   ·rw[am hc]at hat
    have HAT:Hid (bJ S.data.toList=(O++[S.data.toList[k]])++bJ (S.data.toList.drop (k+1))):=kT HLN.out hat;have hcz:=oL hc;have h13:((13:UInt8).toNat:Int)=13:=rfl;rw[h13]at hcz;clear hat hc h13;generalize S.data.toList[k]=c at *;obtain⟨x,hx⟩ : ∃x,c.toNat=x:=⟨_,rfl⟩;rw[hx]at hcz hix;have HX:=aa hx;have hcb:((x:Int) != 13)=true:=by simpa using hcz
    have hcb2:((x:Int)==13)=false:=by simpa using hcz
    clear hx hkl
    go_wp2_with (at_builtin;refine ez rfl _ _ rfl w.heap.size O u3 rfl HO.out hbs c _ (by rw[HX.out]) rfl hOn ?_;intro v3 w3 hO3 hb3)
    have HO3:=aa hO3;have HB3:=aa hb3;clear hO3 hb3;go_wp2
    go_roundw
    case rel=>exact⟨k+1,O++[c],by rw[HNL.out];exact hlt,by go_num,HO3.out,by rw[aj,aB];omega,HAT.out,HB.out.trans HB3.out⟩
    case measure=>simp[intOf];omega
  ·have hkz:¬(k:Int)<(N:Int):=by omega
   have hkz1:=ap hkz;have hfin:=HLN.out;rw[cj (by rw[HNL.out];omega),show bJ []=[]from rfl,bo]at hfin
   obtain⟨A',cap',hv,hcl,hcm,hli⟩:=HO.out.lies;have hcv:=cF cap' hli;have hOR:(⟨O.toArray⟩ : ByteArray)=R:=by rw[<-hfin];exact HR.out
   rw[hOR]at hcv;generalize O.length=n at *;subst hv;clear hli hfin hOR HO HLN;go_wp2;go_ret;exact⟨rfl,HB.out⟩
end Go.Proofs.YteinegfbpfhflaaGreatDoor
