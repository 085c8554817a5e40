/-
  From what a row lists of the tables, and from the world's shape, to what the walks ask of the world; the row's start. Conditions: the tables lie as they are listed.
  An argument that is a slice of bytes, opened into what the walks ask. Conditions: none.
-/
import Derived.Test.YteinegfbpfhflaaGreatDoorM09
import Derived.Test.YteinegfbpfhflaaGreatDoorM12
import Derived.Test.YteinegfbpfhflaaGreatDoorRows
import Derived.Lib.LaidU8
import Derived.PinnedBridge
import Derived.ProofKit
import Derived.Lay
import Derived.MakeChecks
import Derived.Shelf.Vars
import Derived.SizedLaws
import Derived.Test.YteinegfbpfhflaaGreatDoorM00
import Derived.Test.YteinegfbpfhflaaGreatDoorM07
import Derived.OpenShut
import Derived.Stop.Joined
namespace Go.Proofs.YteinegfbpfhflaaGreatDoor
open Go.ChangeShapes Go.WideShapes Go.ChangeAt Go.RowKit
set_option maxRecDepth 100000
theorem own:ownKnob Tryz.prog.godebug=none:=by kernel_rfl
def kg:List (String×DataW Unit):=[("unicode/utf8.acceptRanges",Rows.laid_unicode_utf8_acceptRanges),("unicode.asciiFold",Rows.laid_unicode_asciiFold),("unicode.caseOrbit",Rows.laid_unicode_caseOrbit),("apostille/name.beginnings",Rows.laid_apostille_name_beginnings),("apostille/name.followers",Rows.laid_apostille_name_followers),("unicode.CaseRanges",Rows.laid_unicode_CaseRanges),("unicode/utf8.first",Rows.laid_unicode_utf8_first)]
theorem GS:Tryz.prog.globalNamed "unicode/utf8.first" = some 0:=by kernel_rfl
theorem Fh:Tryz.prog.globalNamed "unicode/utf8.acceptRanges" = some 1:=by kernel_rfl
theorem I7:Tryz.prog.globalNamed "apostille/name.beginnings" = some 6:=by kernel_rfl
theorem I6:Tryz.prog.globalNamed "apostille/name.followers" = some 7:=by kernel_rfl
theorem Gi:(Tryz.prog.globals[0]?).map (·.type)=some 139:=by kernel_rfl
theorem Eo:(Tryz.prog.globals[1]?).map (·.type)=some 142:=by kernel_rfl
theorem IW:(Tryz.prog.globals[6]?).map (·.type)=some 208:=by kernel_rfl
theorem IV:(Tryz.prog.globals[7]?).map (·.type)=some 209:=by kernel_rfl
theorem c5:Tryz.prog.cellsOf 5 = 1:=by kernel_rfl
theorem I9:Tryz.prog.cellsOf 139 = 256:=by kernel_rfl
theorem DE:Tryz.prog.cellsOf 141 = 2:=by kernel_rfl
theorem Jq:Tryz.prog.cellsOf 21 = 1:=by kernel_rfl
theorem F3:Tryz.prog.cellsOf 207 = 2:=by kernel_rfl
def uA(t:List (Int×Int)):DataW Unit:=.agg (t.map fun p => .agg ([p.1,p.2].map fun z => .lit (.int .i32 z)))
theorem BJ:(Rows.laid_unicode_utf8_acceptRanges:DataW Unit)=Lib.acceptData:=by kernel_rfl
theorem G8:(Rows.laid_apostille_name_beginnings:DataW Unit)=uA oe:=by kernel_rfl
theorem GV:(Rows.laid_apostille_name_followers:DataW Unit)=uA ml:=by kernel_rfl
theorem uF:∀(t:List (Int×Int)) (i:Nat),(mo t)[2*i]? = t[i]?.map (fun p=>Value.int .i32 p.1)/\(mo t)[2*i+1]? = t[i]?.map (fun p=>Value.int .i32 p.2)
 | [],i=>by simp[mo]
 |p::t,0=>by simp[mo]
 |p::t,i+1=>by
  have h:=uF t i;have e:mo (p::t)=.int .i32 p.1 :: .int .i32 p.2::mo t:=rfl;rw[e,show 2*(i+1)=2*i+1+1 from rfl,bH,bH,bH,bH,bH];exact h
theorem Dd(t:List (Int×Int)):(mo t).length=2*t.length:=by
 induction t with
 |nil=>rfl
 |cons p t ih =>
  have e:mo (p::t)=.int .i32 p.1 :: .int .i32 p.2::mo t:=rfl;rw[e,az,az,ih,az];omega
theorem uz{W:World}{t:List (Int×Int)}{G T:Nat}{nm:String}(h:Lib.VarReads Tryz.prog W nm (uA t))(hG:Tryz.prog.globalNamed nm=some G)(hT:(Tryz.prog.globals[G]?).map (·.type)=some T)
 (hu:Tryz.prog.underlying T=some (.array t.length 207)):∀j v,(mo t).toArray[j]? = some v->W.cell? ⟨G,j,none⟩=some v:=by
 obtain⟨g,ty,cs,fuel,p,hg,hty,hvar,hd⟩:=h;obtain rfl:=Option.some.inj (hG.symm.trans hg);obtain rfl:=Option.some.inj (hT.symm.trans hty);intro j v hv;rw[List.getElem?_toArray]at hv;have hj:j<2*t.length:=by rw[<-Dd];exact(bh.1 hv).1
 obtain⟨fuel',d,q,hdi,he⟩:=Lib.array_elem hu hd (j/2) (by omega)
 have hp:t[j/2]? = some t[j/2]:=aw (by omega)
 rw[List.getElem?_map,hp,Option.map_some,al]at hdi;subst hdi;rw[F3]at he
 have hcs:=Lib.ints_of_struct Tryz.underlying207 (fun j f hj=>by
  match j,hj with
  |0,hj=>simp at hj;subst hj;exact⟨Tryz.underlying21,rfl,Jq⟩
  |1,hj=>simp at hj;subst hj;exact⟨Tryz.underlying21,rfl,Jq⟩
  |j+2,hj=>simp at hj) (by rw[F3];rfl) he
 have e0:=congrArg (·[0]?) hcs
 have e1:=congrArg (·[1]?) hcs
 simp only[List.getElem?_take,List.getElem?_drop]at e0 e1;rw[World.var?_cell hg hvar j,<-bi];obtain⟨f0,f1⟩:=uF t (j/2);rw[hp]at f0 f1;rcases(show j=2*(j/2)∨j=2*(j/2)+1 by omega)with e|e
 ·rw[e]at hv ⊢
  rw[f0]at hv;rw[<-hv];simpa [Nat.mul_comm]using e0
 ·rw[e]at hv ⊢
  rw[f1]at hv;rw[<-hv];simpa [Nat.mul_comm]using e1
theorem sp{W:World}(hL:laidMetH Tryz.prog kg W):kz W:=by
 rw[MakeChecks.laidMetH_plain _ _ _ (by kernel_rfl)]at hL
 have h4:Lib.VarReads Tryz.prog W "unicode/utf8.acceptRanges" Lib.acceptData:=BJ ▸ Lib.laidMet.reads hL (.head _);have hb:Lib.VarReads Tryz.prog W "apostille/name.beginnings" (uA oe):=G8 ▸ Lib.laidMet.reads hL (.tail _ (.tail _ (.tail _ (.head _))));have hf:Lib.VarReads Tryz.prog W "apostille/name.followers" (uA ml):=GV ▸ Lib.laidMet.reads hL (.tail _ (.tail _ (.tail _ (.tail _ (.head _)))));have h3:Lib.VarReads Tryz.prog W "unicode/utf8.first" Lib.firstData:=Pinned.utf8First_eq ▸ Lib.laidMet.reads hL (.tail _ (.tail _ (.tail _ (.tail _ (.tail _ (.tail _ (.head _)))))))
 refine⟨⟨fun c hc => ?_,fun i hi => ?_⟩,uz hb I7 IW Tryz.underlying208,uz hf I6 IV Tryz.underlying209⟩
 ·obtain⟨g,t,cs,fuel,p,hg,hty,hvar,hd⟩:=h3
  obtain rfl:=Option.some.inj (GS.symm.trans hg);obtain rfl:=Option.some.inj (Gi.symm.trans hty);have hcs:=Lib.cells_of_tab Tryz.underlying139 Tryz.underlying5 c5 I9 hd;have:=World.var?_cell hg hvar c;rw[this,<-bi,hcs];simp[Lib.firstTab,hc]
 ·obtain⟨g,t,cs,fuel,p,hg,hty,hvar,hd⟩:=h4
  obtain rfl:=Option.some.inj (Fh.symm.trans hg);obtain rfl:=Option.some.inj (Eo.symm.trans hty);obtain⟨fuel',d,q,hdi,he⟩:=Lib.array_elem Tryz.underlying142 hd i hi;simp only[List.getElem?_map,List.getElem?_range hi,Option.map_some,al]at hdi;subst hdi;rw[DE]at he
  have hcs:=Lib.ints_of_struct Tryz.underlying141 (fun j f hj=>by
   match j,hj with
   |0,hj=>simp at hj;subst hj;exact⟨Tryz.underlying5,rfl,c5⟩
   |1,hj=>simp at hj;subst hj;exact⟨Tryz.underlying5,rfl,c5⟩
   |j+2,hj=>simp at hj) (by rw[DE];rfl) he
  have e0:=congrArg (·[0]?) hcs
  have e1:=congrArg (·[1]?) hcs
  simp only[List.getElem?_take,List.getElem?_drop]at e0 e1
  constructor
  ·rw[World.var?_cell hg hvar (2*i),<-bi]
   simpa [Nat.mul_comm]using e0
  ·rw[World.var?_cell hg hvar (2*i+1),<-bi]
   simpa [Nat.mul_comm]using e1
def FZ:List Int:=[0,1,2,3,4,5,6,7,8,9,10,11,12,13,14,15,16,17,18,19,20,21,22,23,24,25,26,27,28,29,30,31,32,33,34,35,36,37,38,39,40,41,42,43,44,45,46,47,48,49,50,51,52,53,54,55,56,57,58,59,60,61,62,63,64,97,98,99,100,101,102,103,104,105,106,107,108,109,110,111,112,113,114,115,116,117,118,119,120,121,122,91,92,93,94,95,96,65,66,67,68,69,70,71,72,73,74,8490,76,77,78,79,80,81,82,383,84,85,86,87,88,89,90,123,124,125,126,127]
theorem Fi:(Rows.laid_unicode_asciiFold:DataW Unit)=Lib.tabData .u16 FZ:=by kernel_rfl
theorem Ih:Tryz.prog.globalNamed "unicode.asciiFold" = some 3:=by kernel_rfl
theorem Ht:(Tryz.prog.globals[3]?).map (·.type)=some 179:=by kernel_rfl
theorem I8:Tryz.prog.cellsOf 178 = 1:=by kernel_rfl
theorem Ja:Tryz.prog.cellsOf 179 = 128:=by kernel_rfl
theorem qE{W:World}(hL:laidMetH Tryz.prog kg W):mU W:=by
 rw[MakeChecks.laidMetH_plain _ _ _ (by kernel_rfl)]at hL
 have h:Lib.VarReads Tryz.prog W "unicode.asciiFold" (Lib.tabData .u16 FZ):=Fi ▸ Lib.laidMet.reads hL (.tail _ (.head _));obtain⟨g,t,cs,fuel,p,hg,hty,hvar,hd⟩:=h;obtain rfl:=Option.some.inj (Ih.symm.trans hg);obtain rfl:=Option.some.inj (Ht.symm.trans hty);have hcs:=Lib.cells_of_tab Tryz.underlying179 Tryz.underlying178 I8 Ja hd;intro q hq;rw[World.var?_cell hg hvar q.1,<-bi,hcs];simp only[aU,bE,or_false]at hq;rcases hq with rfl|rfl|rfl|rfl|rfl|rfl|rfl|rfl|rfl|rfl|rfl|rfl|rfl|rfl<;>rfl
theorem Hr{W:World}(hL:laidMetH Tryz.prog kg W)(hsh:W.ShapedOpen Tryz.prog):Wd W :=
 ⟨sp hL,cell_of_shapedOpen_int (P:=Tryz.prog) (g:=2) (t:=3) (zero:=#[.int .i64 0]) hsh (of_decide_eq_true (by kernel_rfl)) (by kernel_rfl) rfl (by kernel_rfl) (by kernel_rfl) Tryz.underlying3,qE hL⟩
theorem zK(os:Os)(args:Array Value):laidMetH Tryz.prog kg ((World.laidAll Tryz.prog os kg).forCall (fun _ _=>0) ⟨#[],args,[]⟩).memory:=by
 rw[MakeChecks.laidMetH_plain _ _ _ (by kernel_rfl)];exact laidMet_laidAll _ (by kernel_rfl) (by kernel_rfl)
theorem vm{H:Type}{enc:TypeId×Value->H}{os:Os}{f:FuncId}{fn:Func}{s:ChangeSpec}(started:os.Started)(noInit:Tryz.prog.inits.idxOf? f=none)(hfn:Tryz.prog.funcs[f]? = some fn)
 (witness:∃(w:World) (tape:Tape) (i:Input),w.os=os/\(w.forCall tape i).Shaped Tryz.prog/\i.vars=[]/\Input.okWide Tryz.prog (w.forCall tape i) .any w.heap.size f i /\
   ((s.pre enc Tryz.prog fn [] false (w.forCall tape i).memory i.args/\laidMetH Tryz.prog kg (w.forCall tape i).memory)/\sizedMet enc Tryz.prog fn (OpenSpec.ofChange s) false (w.forCall tape i).memory i.args)/\Assume.holds {} Tryz.prog (lone (Frame.enter Tryz.prog f i.args .normal) [] (w.forCall tape i)))
 (contract:∀(W:World) (base:Nat) (args:Array Value) (ds gs:List (DataW H)) (before:List MemPlace),
   (∀(j:Nat) t v,fn.params[j]? = some t->args[j]? = some v->Value.okWide Tryz.prog W .any base t v) ->
   DataW.Whole enc Tryz.prog fn.params.toList s.vars false W args.toList ds gs before ->
   (DataW.weightsEach Tryz.prog (fn.params.toList++s.plain.varTypes Tryz.prog) (ds++gs)).all (·<=reachBytes)=true->Wd W ->
   Calls Tryz.prog f args W fun e W' => ∃v,e=.returned v/\s.post enc Tryz.prog fn false true false false W args v W') :
 ReturnsInHanded {} Tryz.checked os f .any (fun w args=>(s.pre enc Tryz.prog fn [] false w args/\laidMetH Tryz.prog kg w)/\sizedMet enc Tryz.prog fn (OpenSpec.ofChange s) false w args) (s.post enc Tryz.prog fn false true false false):=by
 refine returnsInHanded_of_calls (C:=Tryz.checked) own started noInit witness ?_;intro w tape i _ hsh _ hok hpre _;obtain⟨_,_,_,fn',hfn',_,_,_,_,hval⟩:=hok;obtain rfl:fn'=fn:=Option.some.inj (hfn'.symm.trans hfn);obtain⟨⟨⟨ds,gs,before,hw,_⟩,hx⟩,hz⟩:=hpre;have hw':=DataW.Whole.of_heap (w':=w.forCall tape i) (by rfl) hw
 have hx':laidMetH Tryz.prog kg (w.forCall tape i):=hx.of_heap (by rfl)
 refine(contract (w.forCall tape i) w.heap.size i.args ds gs before hval hw' (hz.weights hw) (Hr hx' hsh)).mono fun e W' ⟨v,he,hp⟩ => ?_;subst he;exact ChangeSpec.post_blind hp
theorem nQ{W:World}{b o:Nat}{v:Value}(h:W.cell? ⟨b,o,none⟩=some v):b<W.heap.size:=by
 rcases Nat.lt_or_ge b W.heap.size with hlt|hge
 ·exact hlt
 ·rw[World.cell?,bL hge]at h;cases h
theorem xE{W:World}{k:IntKind}{a:Addr}{len:Nat}{zs:List Int}(hlen:len<=zs.length)(hc:∀i,i<zs.length->W.cell? (a.add i)=some (.int k (zs.getD i 0))) :
 en W W.heap.size (some a) ((zs.take len).map (Value.int k)):=fun hne=>by
 have h0:0<len:=by
  rcases bw len with h|h
  ·subst h;simp at hne
  ·exact h
 obtain⟨b,o,rfl,hc'⟩:=ints_at hc (by omega)
 refine⟨b,o,rfl,nQ (hc' 0 (by omega)),fun j hj => ?_⟩
 have hj':j<len/\j<zs.length:=by rw[bN,aY]at hj;omega
 rw[hc' j hj'.2];simp[List.getD_eq_getElem?_getD,aw hj'.2]
theorem ES{H:Type}{enc:TypeId×Value->H}{W:World}{base:Nat}{v:Value}{d:DataW H}{ps:List MemPlace}(hv:Value.okWide Tryz.prog W .any base 22 v)
 (h:DataW.Trod enc Tryz.prog W 0 (fun _=>true) true 22 v d ps) :
 ∃A bs cap,v=.slice A bs.length cap/\bs.length<=cap/\cap<=9223372036854775807/\en W W.heap.size A (ec bs):=by
 obtain⟨a0,len,cap,rfl⟩:=okWide_slice Tryz.underlying22 hv;obtain⟨fuel,hf⟩:=h;rcases open_ints Tryz.underlying22 Tryz.underlying5 c5 hf with⟨hcs,hx⟩|⟨a,len',cap',zs,hcs,_,hl,hm,hz,hx,hcell,hwz⟩
 ·simp[Value.cells]at hcs
  obtain⟨rfl,rfl,rfl⟩:=hcs;exact⟨none,[],0,rfl,af _,by omega,fun h=>absurd rfl h⟩
 ·simp[Value.cells]at hcs
  obtain⟨rfl,rfl,rfl⟩:=hcs;simp only[if_true]at hz
  have hb:∀z∈zs,0<=z/\z<256:=fun z hz'=>by
   have:=hwz z hz';simp[Lit.wf,IntKind.min,IntKind.max,IntKind.signed,IntKind.bits]at this;omega
  have e:ec ((zs.take len).map fun z=>z.toNat.toUInt8)=(zs.take len).map (Value.int .u8):=by
   unfold ec;rw[List.map_map]
   apply List.map_congr_left
   intro z hz';have:=hb z (List.mem_of_mem_take hz');simp only[Function.comp];rw[cq this.1 this.2,Int.toNat_of_nonneg this.1]
  have hlen:((zs.take len).map fun z=>z.toNat.toUInt8).length=len:=by rw[bN,aY];omega
  refine⟨some a,(zs.take len).map fun z=>z.toNat.toUInt8,cap,by rw[hlen],by rw[hlen];exact hl,by unfold maxLen at hm;exact hm,?_⟩
  rw[e];exact xE (by omega) hcell
theorem FL{W:World}(h:Wd W) : 8<=W.heap.size:=by
 have h1:=h.tabs.five;obtain⟨m,hm⟩:=h.max;have h2 : 2 < W.heap.size:=nQ hm;omega
end Go.Proofs.YteinegfbpfhflaaGreatDoor
