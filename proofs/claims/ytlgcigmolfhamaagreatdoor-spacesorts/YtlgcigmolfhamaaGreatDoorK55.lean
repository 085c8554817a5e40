/-
  From what a row lists of the tables, and from the world's shape, to what the walks ask of the world; the row's start. Conditions: the tables lie as they are listed.
  An argument that is a slice of bytes, opened into what the walks ask. Conditions: none.
-/
import Derived.Test.YtlgcigmolfhamaaGreatDoorK09
import Derived.Test.YtlgcigmolfhamaaGreatDoorK12
import Derived.Test.YtlgcigmolfhamaaGreatDoorRows
import Derived.Lib.LaidU8
import Derived.PinnedBridge
import Derived.ProofKit
import Derived.Lay
import Derived.MakeChecks
import Derived.Shelf.Vars
import Derived.SizedLaws
import Derived.Test.YtlgcigmolfhamaaGreatDoorK00
import Derived.Test.YtlgcigmolfhamaaGreatDoorK07
import Derived.OpenShut
import Derived.Stop.Joined
namespace Go.Proofs.YtlgcigmolfhamaaGreatDoor
open Go.ChangeShapes Go.WideShapes Go.ChangeAt Go.RowKit
set_option maxRecDepth 100000
theorem own:ownKnob Tryz.prog.godebug=none:=by kernel_rfl
def Z7:List (String×DataW Unit):=[("unicode/utf8.acceptRanges",Rows.laid_unicode_utf8_acceptRanges),("unicode.asciiFold",Rows.laid_unicode_asciiFold),("unicode.caseOrbit",Rows.laid_unicode_caseOrbit),("apostille/name.beginnings",Rows.laid_apostille_name_beginnings),("apostille/name.followers",Rows.laid_apostille_name_followers),("unicode.CaseRanges",Rows.laid_unicode_CaseRanges),("unicode/utf8.first",Rows.laid_unicode_utf8_first)]
theorem c0o:Tryz.prog.globalNamed "unicode/utf8.first" = some 0:=by kernel_rfl
theorem b8O:Tryz.prog.globalNamed "unicode/utf8.acceptRanges" = some 1:=by kernel_rfl
theorem c1w:Tryz.prog.globalNamed "apostille/name.beginnings" = some 6:=by kernel_rfl
theorem c1v:Tryz.prog.globalNamed "apostille/name.followers" = some 7:=by kernel_rfl
theorem b9M:(Tryz.prog.globals[0]?).map (·.type)=some 173:=by kernel_rfl
theorem b72:(Tryz.prog.globals[1]?).map (·.type)=some 176:=by kernel_rfl
theorem c1r:(Tryz.prog.globals[6]?).map (·.type)=some 243:=by kernel_rfl
theorem c1q:(Tryz.prog.globals[7]?).map (·.type)=some 244:=by kernel_rfl
theorem c5:Tryz.prog.cellsOf 5 = 1:=by kernel_rfl
theorem c1y:Tryz.prog.cellsOf 173 = 256:=by kernel_rfl
theorem b7n:Tryz.prog.cellsOf 175 = 2:=by kernel_rfl
theorem c6D:Tryz.prog.cellsOf 21 = 1:=by kernel_rfl
theorem b9w:Tryz.prog.cellsOf 242 = 2:=by kernel_rfl
def b0d(t:List (Int×Int)):DataW Unit:=.agg (t.map fun p => .agg ([p.1,p.2].map fun z => .lit (.int .i32 z)))
theorem b5u:(Rows.laid_unicode_utf8_acceptRanges:DataW Unit)=Lib.acceptData:=by kernel_rfl
theorem c0H:(Rows.laid_apostille_name_beginnings:DataW Unit)=b0d a5A:=by kernel_rfl
theorem c0q:(Rows.laid_apostille_name_followers:DataW Unit)=b0d a4i:=by kernel_rfl
theorem b0i:∀(t:List (Int×Int)) (i:Nat),(a4l t)[2*i]? = t[i]?.map (fun p=>Value.int .i32 p.1)/\(a4l t)[2*i+1]? = t[i]?.map (fun p=>Value.int .i32 p.2)
 | [],i=>by simp[a4l]
 |p::t,0=>by simp[a4l]
 |p::t,i+1=>by
  have h:=b0i t i;have e:a4l (p::t)=.int .i32 p.1 :: .int .i32 p.2::a4l t:=rfl;rw[e,show 2*(i+1)=2*i+1+1 from rfl,C7,C7,C7,C7,C7];exact h
theorem b6T(t:List (Int×Int)):(a4l t).length=2*t.length:=by
 induction t with
 |nil=>rfl
 |cons p t ih =>
  have e:a4l (p::t)=.int .i32 p.1 :: .int .i32 p.2::a4l t:=rfl;rw[e,i8,i8,ih,i8];omega
theorem b0c{W:World}{t:List (Int×Int)}{G T:Nat}{nm:String}(h:Lib.VarReads Tryz.prog W nm (b0d t))(hG:Tryz.prog.globalNamed nm=some G)(hT:(Tryz.prog.globals[G]?).map (·.type)=some T)
 (hu:Tryz.prog.underlying T=some (.array t.length 242)):∀j v,(a4l t).toArray[j]? = some v->W.cell? ⟨G,j,none⟩=some v:=by
 obtain⟨g,ty,cs,fuel,p,hg,D3,D0,hd⟩:=h;obtain rfl:=Option.some.inj (hG.symm.trans hg);obtain rfl:=Option.some.inj (hT.symm.trans D3);intro j v hv;rw[List.getElem?_toArray]at hv;have hj:j<2*t.length:=by rw[<-b6T];exact(z8.1 hv).1
 obtain⟨fuel',d,q,D1,he⟩:=Lib.array_elem hu hd (j/2) (by omega)
 have hp:t[j/2]? = some t[j/2]:=i5 (by omega)
 rw[List.getElem?_map,hp,Option.map_some,f5]at D1;subst D1;rw[b9w]at he
 have D2:=Lib.ints_of_struct Tryz.underlying242 (fun j f hj=>by
  match j,hj with
  |0,hj=>simp at hj;subst hj;exact⟨Tryz.underlying21,rfl,c6D⟩
  |1,hj=>simp at hj;subst hj;exact⟨Tryz.underlying21,rfl,c6D⟩
  |j+2,hj=>simp at hj) (by rw[b9w];rfl) he
 have e0:=congrArg (·[0]?) D2
 have e1:=congrArg (·[1]?) D2
 simp only[List.getElem?_take,List.getElem?_drop]at e0 e1;rw[World.var?_cell hg D0 j,<-A9];obtain⟨f0,f1⟩:=b0i t (j/2);rw[hp]at f0 f1;rcases(show j=2*(j/2)∨j=2*(j/2)+1 by omega)with e|e
 ·rw[e]at hv ⊢
  rw[f0]at hv;rw[<-hv];simpa [Nat.mul_comm]using e0
 ·rw[e]at hv ⊢
  rw[f1]at hv;rw[<-hv];simpa [Nat.mul_comm]using e1
theorem a8A{W:World}(hL:laidMetH Tryz.prog Z7 W):a2Z W:=by
 rw[MakeChecks.laidMetH_plain _ _ _ (by kernel_rfl)]at hL
 have h4:Lib.VarReads Tryz.prog W "unicode/utf8.acceptRanges" Lib.acceptData:=b5u ▸ Lib.laidMet.reads hL (.head _);have hb:Lib.VarReads Tryz.prog W "apostille/name.beginnings" (b0d a5A):=c0H ▸ Lib.laidMet.reads hL (.tail _ (.tail _ (.tail _ (.head _))));have hf:Lib.VarReads Tryz.prog W "apostille/name.followers" (b0d a4i):=c0q ▸ Lib.laidMet.reads hL (.tail _ (.tail _ (.tail _ (.tail _ (.head _)))));have h3:Lib.VarReads Tryz.prog W "unicode/utf8.first" Lib.firstData:=Pinned.utf8First_eq ▸ Lib.laidMet.reads hL (.tail _ (.tail _ (.tail _ (.tail _ (.tail _ (.tail _ (.head _)))))))
 refine⟨⟨fun c hc => ?_,fun i hi => ?_⟩,b0c hb c1w c1r Tryz.underlying243,b0c hf c1v c1q Tryz.underlying244⟩
 ·obtain⟨g,t,cs,fuel,p,hg,D2,D0,hd⟩:=h3
  obtain rfl:=Option.some.inj (c0o.symm.trans hg);obtain rfl:=Option.some.inj (b9M.symm.trans D2);have D1:=Lib.cells_of_tab Tryz.underlying173 Tryz.underlying5 c5 c1y hd;have:=World.var?_cell hg D0 c;rw[this,<-A9,D1];simp[Lib.firstTab,hc]
 ·obtain⟨g,t,cs,fuel,p,hg,D2,D0,hd⟩:=h4
  obtain rfl:=Option.some.inj (b8O.symm.trans hg);obtain rfl:=Option.some.inj (b72.symm.trans D2);obtain⟨fuel',d,q,D3,he⟩:=Lib.array_elem Tryz.underlying176 hd i hi;simp only[List.getElem?_map,List.getElem?_range hi,Option.map_some,f5]at D3;subst D3;rw[b7n]at he
  have D1:=Lib.ints_of_struct Tryz.underlying175 (fun j f hj=>by
   match j,hj with
   |0,hj=>simp at hj;subst hj;exact⟨Tryz.underlying5,rfl,c5⟩
   |1,hj=>simp at hj;subst hj;exact⟨Tryz.underlying5,rfl,c5⟩
   |j+2,hj=>simp at hj) (by rw[b7n];rfl) he
  have e0:=congrArg (·[0]?) D1
  have e1:=congrArg (·[1]?) D1
  simp only[List.getElem?_take,List.getElem?_drop]at e0 e1
  constructor
  ·rw[World.var?_cell hg D0 (2*i),<-A9]
   simpa [Nat.mul_comm]using e0
  ·rw[World.var?_cell hg D0 (2*i+1),<-A9]
   simpa [Nat.mul_comm]using e1
def b9s:List Int:=[0,1,2,3,4,5,6,7,8,9,10,11,12,13,14,15,16,17,18,19,20,21,22,23,24,25,26,27,28,29,30,31,32,33,34,35,36,37,38,39,40,41,42,43,44,45,46,47,48,49,50,51,52,53,54,55,56,57,58,59,60,61,62,63,64,97,98,99,100,101,102,103,104,105,106,107,108,109,110,111,112,113,114,115,116,117,118,119,120,121,122,91,92,93,94,95,96,65,66,67,68,69,70,71,72,73,74,8490,76,77,78,79,80,81,82,383,84,85,86,87,88,89,90,123,124,125,126,127]
theorem b8Q:(Rows.laid_unicode_asciiFold:DataW Unit)=Lib.tabData .u16 b9s:=by kernel_rfl
theorem c01:Tryz.prog.globalNamed "unicode.asciiFold" = some 3:=by kernel_rfl
theorem c0T:(Tryz.prog.globals[3]?).map (·.type)=some 215:=by kernel_rfl
theorem c1x:Tryz.prog.cellsOf 214 = 1:=by kernel_rfl
theorem c1z:Tryz.prog.cellsOf 215 = 128:=by kernel_rfl
theorem a7q{W:World}(hL:laidMetH Tryz.prog Z7 W):a4J W:=by
 rw[MakeChecks.laidMetH_plain _ _ _ (by kernel_rfl)]at hL
 have h:Lib.VarReads Tryz.prog W "unicode.asciiFold" (Lib.tabData .u16 b9s):=b8Q ▸ Lib.laidMet.reads hL (.tail _ (.head _));obtain⟨g,t,cs,fuel,p,hg,D1,D0,hd⟩:=h;obtain rfl:=Option.some.inj (c01.symm.trans hg);obtain rfl:=Option.some.inj (c0T.symm.trans D1);have D2:=Lib.cells_of_tab Tryz.underlying215 Tryz.underlying214 c1x c1z hd;intro q hq;rw[World.var?_cell hg D0 q.1,<-A9,D2];simp only[q8,C5,or_false]at hq;rcases hq with rfl|rfl|rfl|rfl|rfl|rfl|rfl|rfl|rfl|rfl|rfl|rfl|rfl|rfl<;>rfl
theorem c0S{W:World}(hL:laidMetH Tryz.prog Z7 W)(D0:W.ShapedOpen Tryz.prog):Wd W :=
 ⟨a8A hL,cell_of_shapedOpen_int (P:=Tryz.prog) (g:=2) (t:=3) (zero:=#[.int .i64 0]) D0 (of_decide_eq_true (by kernel_rfl)) (by kernel_rfl) rfl (by kernel_rfl) (by kernel_rfl) Tryz.underlying3,a7q hL⟩
theorem a28(os:Os)(args:Array Value):laidMetH Tryz.prog Z7 ((World.laidAll Tryz.prog os Z7).forCall (fun _ _=>0) ⟨#[],args,[]⟩).memory:=by
 rw[MakeChecks.laidMetH_plain _ _ _ (by kernel_rfl)];exact laidMet_laidAll _ (by kernel_rfl) (by kernel_rfl)
theorem a1x{H:Type}{enc:TypeId×Value->H}{os:Os}{f:FuncId}{fn:Func}{s:ChangeSpec}(started:os.Started)(noInit:Tryz.prog.inits.idxOf? f=none)(D3:Tryz.prog.funcs[f]? = some fn)
 (witness:∃(w:World) (tape:Tape) (i:Input),w.os=os/\(w.forCall tape i).Shaped Tryz.prog/\i.vars=[]/\Input.okWide Tryz.prog (w.forCall tape i) .any w.heap.size f i /\
   ((s.pre enc Tryz.prog fn [] false (w.forCall tape i).memory i.args/\laidMetH Tryz.prog Z7 (w.forCall tape i).memory)/\sizedMet enc Tryz.prog fn (OpenSpec.ofChange s) false (w.forCall tape i).memory i.args)/\Assume.holds {} Tryz.prog (lone (Frame.enter Tryz.prog f i.args .normal) [] (w.forCall tape i)))
 (contract:∀(W:World) (base:Nat) (args:Array Value) (ds gs:List (DataW H)) (before:List MemPlace),
   (∀(j:Nat) t v,fn.params[j]? = some t->args[j]? = some v->Value.okWide Tryz.prog W .any base t v) ->
   DataW.Whole enc Tryz.prog fn.params.toList s.vars false W args.toList ds gs before ->
   (DataW.weightsEach Tryz.prog (fn.params.toList++s.plain.varTypes Tryz.prog) (ds++gs)).all (·<=reachBytes)=true->Wd W ->
   Calls Tryz.prog f args W fun e W' => ∃v,e=.returned v/\s.post enc Tryz.prog fn false true false false W args v W') :
 ReturnsInHanded {} Tryz.checked os f .any (fun w args=>(s.pre enc Tryz.prog fn [] false w args/\laidMetH Tryz.prog Z7 w)/\sizedMet enc Tryz.prog fn (OpenSpec.ofChange s) false w args) (s.post enc Tryz.prog fn false true false false):=by
 refine returnsInHanded_of_calls (C:=Tryz.checked) own started noInit witness ?_;intro w tape i _ D9 _ E0 D0 _;obtain⟨_,_,_,fn',D1,_,_,_,_,D2⟩:=E0;obtain rfl:fn'=fn:=Option.some.inj (D1.symm.trans D3);obtain⟨⟨⟨ds,gs,before,hw,_⟩,hx⟩,hz⟩:=D0;have hw':=DataW.Whole.of_heap (w':=w.forCall tape i) (by rfl) hw
 have hx':laidMetH Tryz.prog Z7 (w.forCall tape i):=hx.of_heap (by rfl)
 refine(contract (w.forCall tape i) w.heap.size i.args ds gs before D2 hw' (hz.weights hw) (c0S hx' D9)).mono fun e W' ⟨v,he,hp⟩ => ?_;subst he;exact ChangeSpec.post_blind hp
theorem a5n{W:World}{b o:Nat}{v:Value}(h:W.cell? ⟨b,o,none⟩=some v):b<W.heap.size:=by
 rcases Nat.lt_or_ge b W.heap.size with hlt|hge
 ·exact hlt
 ·rw[World.cell?,D4 hge]at h;cases h
theorem b2q{W:World}{k:IntKind}{a:Addr}{len:Nat}{zs:List Int}(D0:len<=zs.length)(hc:∀i,i<zs.length->W.cell? (a.add i)=some (.int k (zs.getD i 0))) :
 Q3 W W.heap.size (some a) ((zs.take len).map (Value.int k)):=fun D1=>by
 have h0:0<len:=by
  rcases B9 len with h|h
  ·subst h;simp at D1
  ·exact h
 obtain⟨b,o,rfl,hc'⟩:=ints_at hc (by omega)
 refine⟨b,o,rfl,a5n (hc' 0 (by omega)),fun j hj => ?_⟩
 have hj':j<len/\j<zs.length:=by rw[C9,u0]at hj;omega
 rw[hc' j hj'.2];simp[List.getD_eq_getElem?_getD,i5 hj'.2]
theorem a8Z{H:Type}{enc:TypeId×Value->H}{W:World}{base:Nat}{v:Value}{d:DataW H}{ps:List MemPlace}(hv:Value.okWide Tryz.prog W .any base 22 v)
 (h:DataW.Trod enc Tryz.prog W 0 (fun _=>true) true 22 v d ps) :
 ∃A bs cap,v=.slice A bs.length cap/\bs.length<=cap/\cap<=9223372036854775807/\Q3 W W.heap.size A (P6 bs):=by
 obtain⟨a0,len,cap,rfl⟩:=okWide_slice Tryz.underlying22 hv;obtain⟨fuel,hf⟩:=h;rcases open_ints Tryz.underlying22 Tryz.underlying5 c5 hf with⟨D0,hx⟩|⟨a,len',cap',zs,D0,_,hl,hm,hz,hx,D1,D3⟩
 ·simp[Value.cells]at D0
  obtain⟨rfl,rfl,rfl⟩:=D0;exact⟨none,[],0,rfl,c9 _,by omega,fun h=>absurd rfl h⟩
 ·simp[Value.cells]at D0
  obtain⟨rfl,rfl,rfl⟩:=D0;simp only[if_true]at hz
  have hb:∀z∈zs,0<=z/\z<256:=fun z hz'=>by
   have:=D3 z hz';simp[Lit.wf,IntKind.min,IntKind.max,IntKind.signed,IntKind.bits]at this;omega
  have e:P6 ((zs.take len).map fun z=>z.toNat.toUInt8)=(zs.take len).map (Value.int .u8):=by
   unfold P6;rw[List.map_map]
   apply List.map_congr_left
   intro z hz';have:=hb z (List.mem_of_mem_take hz');simp only[Function.comp];rw[G1 this.1 this.2,Int.toNat_of_nonneg this.1]
  have D2:((zs.take len).map fun z=>z.toNat.toUInt8).length=len:=by rw[C9,u0];omega
  refine⟨some a,(zs.take len).map fun z=>z.toNat.toUInt8,cap,by rw[D2],by rw[D2];exact hl,by unfold maxLen at hm;exact hm,?_⟩
  rw[e];exact b2q (by omega) D1
theorem a5Z{W:World}(h:Wd W) : 8<=W.heap.size:=by
 have h1:=h.tabs.five;obtain⟨m,hm⟩:=h.max;have h2 : 2 < W.heap.size:=a5n hm;omega
end Go.Proofs.YtlgcigmolfhamaaGreatDoor
