/-
  An argument that is a list of nodes, opened into what the walks ask; how long its texts may be. Conditions: none.
  A list of declarations, opened. Conditions: its bulk is bounded.
-/
import Derived.Test.YtlgcigmolfhamaaGreatDoorK14
import Derived.Test.YtlgcigmolfhamaaGreatDoorRows
import Derived.OpenShut
import Derived.Deep.Slices
import Derived.Lib.SmallJoins
import Derived.Deep.DeepHandedRow
namespace Go.Proofs.YtlgcigmolfhamaaGreatDoor
set_option linter.unusedVariables false
set_option maxRecDepth 100000
section
open Go.ChangeShapes Go.WideShapes Go.ChangeAt Go.RowKit
theorem c6X{W:World}{b o:Nat}{v:Value}(h:W.cell? ⟨b,o,none⟩=some v):b<W.heap.size:=by
 rcases Nat.lt_or_ge b W.heap.size with hlt|hge
 ·exact hlt
 ·rw[World.cell?,D4 hge]at h;cases h
theorem c63{H:Type}(d:DataW H):1<=Rows.uptoBulk d:=by
 cases d with
 |lit l=>cases l<;>simp[Rows.uptoBulk]
 |nil=>simp[Rows.uptoBulk]
 |ptr d=>simp[Rows.uptoBulk]
 |slice elems spare=>simp[Rows.uptoBulk]
 |agg parts=>simp[Rows.uptoBulk]
 |iface t d=>simp[Rows.uptoBulk]
 |map entries=>simp[Rows.uptoBulk]
 |held h=>simp[Rows.uptoBulk]
theorem c61{H:Type}{d:DataW H}{l:List (DataW H)}(h:d∈l):Rows.uptoBulk d<=Rows.uptoBulkAll l:=by
 induction l with
 |nil=>cases h
 |cons x r ih =>
  simp only[Rows.uptoBulkAll];cases q8.1 h with
  |inl e=>subst e;omega
  |inr e=>have:=ih e;omega
theorem c6U{H:Type}(l:List (DataW H)):l.length<=Rows.uptoBulkAll l:=by
 induction l with
 |nil=>simp[Rows.uptoBulkAll]
 |cons x r ih=>have:=c63 x;simp only[Rows.uptoBulkAll,i8];omega
theorem c6T{H:Type}(s:ByteArray):Rows.uptoBulk (DataW.lit (H:=H) (.string s.data.toList))=s.size+1:=by
 simp only[Rows.uptoBulk,Array.length_toList];rfl
section
variable {H:Type} {enc:TypeId×Value->H} {W:World}
theorem c6V{α:Type}[Inhabited α]{C:Nat}{t e:TypeId}{fuel:Nat}{cs0:List Value}{x:DataW H×List MemPlace}(Q:Nat->Nat->α->Prop)(ok:Nat->α->Prop)
 (ht:Tryz.prog.underlying t=some (.slice e)) (hC:Tryz.prog.cellsOf e=C) (D2:0<C)
 (one:∀b o cs n y,(∀j (hj:j<cs.length),W.cell? ⟨b,o+j,none⟩=some cs[j])->cs.length=C->DataW.trod enc Tryz.prog W 0 (fun _=>true) true n e cs=some y->∃a,Q b o a/\ok (Rows.uptoBulk y.1) a)
 (h:DataW.trod enc Tryz.prog W 0 (fun _=>true) true fuel t cs0=some x) :
 ∃A cap,∃l:List α,cs0=[.slice A l.length cap]/\l.length<=cap/\cap<=9223372036854775807/\l.length+1<=Rows.uptoBulk x.1/\(l≠[]->∃b o,A=some ⟨b,o,none⟩/\b<W.heap.size/\∀i (hi:i<l.length),Q b (o+i*C) l[i]) /\
  ∀a∈l,∃k,k<Rows.uptoBulk x.1/\ok k a:=by
 rcases Deep.open_slice ht h with⟨rfl,rfl⟩|⟨a,len,cap,m,n,D,Pl,rfl,_,hl,D3,hm,rfl,hx⟩
 ·exact⟨none,0,[],rfl,c9 _,by omega,by simp[Rows.uptoBulk],fun h=>absurd rfl h,fun a ha=>by cases ha⟩
 have E3:len<=m:=by rw[hm];simpa using hl
 rw[hC]at hx;obtain⟨b,o,sp⟩:=a
 have D9:0<len->sp=none:=fun h0=>by
  obtain⟨cs',h1,_⟩:=hx 0 (by omega)
  obtain⟨_,D1,D0⟩:=World.cells?_some h1;have:=D0 0 D2;rw[i5 (by omega)]at this
  simpa [Addr.add]using World.cell?_spot this
 have E1:∀i,i<len->∃a:α,Q b (o+i*C) a/\ok (Rows.uptoBulk (D i)) a:=fun i hi=>by
  obtain rfl:=D9 (by omega)
  obtain⟨cs',h1,h2⟩:=hx i (by omega)
  obtain⟨_,D1,D0⟩:=World.cells?_some h1
  exact one b (o+i*C) cs' n _ (fun j hj=>by
   have:=D0 j (by omega)
   rw[i5 hj]at this;rw[<-this];unfold Addr.add
   congr 1
   by_cases h1:i*C=0<;>by_cases h2:j=0<;>simp[h1,h2]) D1 h2
 obtain⟨f,hf⟩:=Deep.choose_lt E1;have D1:((List.range len).map f).length=len:=by simp
 refine⟨_,cap,(List.range len).map f,by rw[D1],by rw[D1];exact hl,by unfold maxLen at D3;exact D3,?_,fun E2 => ?_,fun a ha => ?_⟩
 ·rw[D1]
  have:=c6U ((List.range len).map D);simp only[Rows.uptoBulk];simp only[C9,List.length_range]at this;omega
 ·have h0:0<len:=by
   rcases B9 len with h|h
   ·subst h;simp at E2
   ·exact h
  obtain rfl:=D9 h0;obtain⟨cs',h1,_⟩:=hx 0 (by omega)
  obtain⟨_,hl',D0⟩:=World.cells?_some h1;have E0:=D0 0 D2;rw[i5 (by omega)]at E0
  refine⟨b,o,rfl,c6X (o:=o) (v:=cs'[0]'(by omega)) (by simpa [Addr.add]using E0),fun i hi => ?_⟩
  rw[D1]at hi;simpa using(hf i hi).1
 ·obtain⟨i,hi,rfl⟩:=List.mem_map.1 ha
  have hi':=List.mem_range.1 hi;refine⟨_,?_,(hf i hi').2⟩;have:=c61 (List.mem_map.2 ⟨i,hi,rfl⟩ : D i∈(List.range len).map D);simp only[Rows.uptoBulk];omega
end
theorem c67:Tryz.prog.cellsOf 9 = 1:=by kernel_rfl
theorem c66:Tryz.prog.cellsOf 34 = 2:=by kernel_rfl
section
variable {H:Type} {enc:TypeId×Value->H} {W:World}
theorem c6S{n:Nat}{c:Value}{y:DataW H×List MemPlace}(h:DataW.trod enc Tryz.prog W 0 (fun _=>true) true n 9 [c]=some y):∃s:ByteArray,c=.string s/\s.size+1=Rows.uptoBulk y.1:=by
 obtain⟨s,e,rfl,_⟩:=DataW.trod_string Tryz.underlying9 h;simp only[r7,and_true]at e;exact⟨s,e,(c6T s).symm⟩
theorem c65{n:Nat}{cs:List Value}{y:DataW H×List MemPlace}(h:DataW.trod enc Tryz.prog W 0 (fun _=>true) true n 34 cs=some y):∃d:Dc,cs=C1 d/\d.p.size<Rows.uptoBulk y.1/\d.u.size<Rows.uptoBulk y.1:=by
 obtain⟨y0,y1,m,rfl,hl,h0,h1⟩:=trod_struct2 Tryz.underlying34 h;rw[c66]at hl
 match cs,hl with
 | [a,b],_ =>
  simp only[c67,List.drop_zero,List.take_succ_cons,List.take_zero,List.drop_succ_cons]at h0 h1;obtain⟨s0,rfl,e0⟩:=c6S h0;obtain⟨s1,rfl,e1⟩:=c6S h1;refine⟨⟨s0,s1⟩,rfl,?_,?_⟩<;>simp only[Rows.uptoBulk,Rows.uptoBulkAll]<;>omega
theorem c6R{α:Type}{rd:α->List Value}{C:Nat}(D0:∀a,(rd a).length=C)(hC:0<C):∀(l:List α) (j:Nat) (hj:j<(l.flatMap rd).length),∃(i r:Nat) (hi:i<l.length) (hr:r<(rd l[i]).length),j=i*C+r/\(l.flatMap rd)[j]=(rd l[i])[r]
 | [],j,hj=>by simp at hj
 |a::l,j,hj=>by
  by_cases h:j<(rd a).length
  ·refine⟨0,j,by simp,h,by omega,?_⟩
   simp only[List.flatMap_cons,List.getElem_cons_zero];rw[List.getElem_append_left h]
  ·have hj':j-(rd a).length<(l.flatMap rd).length:=by simp only[List.flatMap_cons,e8]at hj;omega
   obtain⟨i,r,hi,hr,e1,e2⟩:=c6R D0 hC l _ hj';refine⟨i+1,r,by simp;omega,by simpa using hr,?_,?_⟩
   ·rw[D0]at e1 h;rw[Nat.succ_mul];omega
   ·simp only[List.flatMap_cons,List.getElem_cons_succ]
    rw[List.getElem_append_right (by omega)]
    exact e2
theorem c60{α:Type}[Inhabited α]{C:Nat}{t e:TypeId}{fuel:Nat}{c:Value}{x:DataW H×List MemPlace}(rd:α->List Value)(ok:Nat->α->Prop)(D2:∀a,(rd a).length=C)
 (ht:Tryz.prog.underlying t=some (.slice e)) (hC:Tryz.prog.cellsOf e=C) (D1:0<C)
 (one:∀cs n y,DataW.trod enc Tryz.prog W 0 (fun _=>true) true n e cs=some y->∃a,cs=rd a/\ok (Rows.uptoBulk y.1) a)
 (h:DataW.trod enc Tryz.prog W 0 (fun _=>true) true fuel t [c]=some x) :
 ∃l:List α,R1 W W.heap.size c l.length (l.flatMap rd)/\l.length+1<=Rows.uptoBulk x.1/\∀a∈l,∃k,k<Rows.uptoBulk x.1/\ok k a:=by
 obtain⟨A,cap,l,e,hl,D3,hb,hq,ha⟩:=c6V (fun b o a => ∀j (hj:j<(rd a).length),W.cell? ⟨b,o+j,none⟩=some (rd a)[j]) ok ht hC D1 (fun b o cs n y D0 _ hy=>by
  obtain⟨a,rfl,ha⟩:=one cs n y hy;exact⟨a,D0,ha⟩) h
 simp only[r7,and_true]at e;subst e;refine⟨l,⟨A,cap,rfl,hl,D3,fun D9 => ?_⟩,hb,ha⟩;obtain⟨b,o,rfl,E0,hi⟩:=hq (by rintro rfl;simp at D9)
 refine⟨b,o,rfl,E0,fun j hj => ?_⟩;obtain⟨i,r,hi',hr,e1,e2⟩:=c6R D2 D1 l j hj;rw[e2,e1,<-Nat.add_assoc];exact hi i hi' r hr
end
theorem c6Q{H:Type}{enc:TypeId×Value->H}{C:Checked}{os:Os}{f:FuncId}{fn:Func}{s:OpenSpec}{conds:List PathCond}{apart:Bool}{laid:List (String×DataW Unit)}(modest:Bool)(w0:World)(args:Array Value)(D2:w0.os=os)
 (D3:(w0.forCall (fun _ _=>0) ⟨#[],args,[]⟩).Shaped C.prog) (D1:Input.okWideB C.prog (w0.forCall (fun _ _=>0) ⟨#[],args,[]⟩) f ⟨#[],args,[]⟩=true) (D0:s.preRow enc C.prog fn conds apart laid (w0.forCall (fun _ _=>0) ⟨#[],args,[]⟩).memory args) :
 ∃(w:World) (tape:Tape) (i:Input),w.os=os/\(w.forCall tape i).Shaped C.prog/\i.vars=[]/\Input.okWide C.prog (w.forCall tape i) .any w.heap.size f i /\
  s.preRow enc C.prog fn conds apart laid (w.forCall tape i).memory i.args/\({ modest:=modest }:Assume).holds C.prog (lone (Frame.enter C.prog f i.args .normal) [] (w.forCall tape i)) :=
 ⟨w0,fun _ _=>0,⟨#[],args,[]⟩,D2,D3,(Input.okWide_of_okWideB (base:=0) D1).1,(Input.okWide_of_okWideB D1).2,D0,by
  simp only[Assume.holds];exact⟨by simp,by simp,fun _=>Modest.zero,by simp,by simp⟩⟩
end
section
open Go.RowKit Go.ChangeShapes Go.WideShapes Go.ChangeAt
theorem c6W{H:Type}{enc:TypeId×Value->H}{W:World}{base:Nat}{v:Value}{d:DataW H}{ps:List MemPlace}(hv:Value.okWide Tryz.prog W .any base 31 v)(h:DataW.Trod enc Tryz.prog W 0 (fun _=>true) true 31 v d ps)(hk:Rows.uptoBulk d<=1048576) :
 ∃(A:Option Addr) (c:Nat) (l:List Dc),v=.slice A l.length c/\a0P W W.heap.size (.slice A l.length c) l/\∀x∈l,x.p.size<=2000000/\x.u.size<=2000000:=by
 obtain⟨a0,len,cap,rfl⟩:=okWide_slice Tryz.underlying31 hv;obtain⟨fuel,hf⟩:=h
 haveI:Inhabited Dc:=⟨⟨.empty,.empty⟩⟩
 obtain⟨l,hl,_,ha⟩:=c60 (enc:=enc) (W:=W) C1 (fun k (d:Dc)=>d.p.size<k/\d.u.size<k) (fun _=>rfl) Tryz.underlying31 c66 (by decide) (fun cs n y hy=>by
  obtain⟨d,e,h1,h2⟩:=c65 hy;exact⟨d,e,h1,h2⟩) hf
 obtain⟨A,c,e,h1,h2,h3⟩:=hl;refine⟨A,c,l,e,⟨A,c,rfl,h1,h2,h3⟩,fun x hx => ?_⟩;obtain⟨k,D0,D2,D3⟩:=ha x hx;have D1:k<Rows.uptoBulk d:=D0;omega
end
end Go.Proofs.YtlgcigmolfhamaaGreatDoor
