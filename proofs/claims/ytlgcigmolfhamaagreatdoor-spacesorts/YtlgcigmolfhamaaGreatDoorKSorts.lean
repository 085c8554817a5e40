/-
  apostillelaw09.SpaceSorts. Conditions: the tables lie as they are laid; awake answers as it is to; nothing is too long.
-/
import Derived.OwnWalk
import Derived.Test.YtlgcigmolfhamaaGreatDoorKS8
import Derived.Test.YtlgcigmolfhamaaGreatDoorKSRef
import Derived.Test.YtlgcigmolfhamaaGreatDoorKS3
import Derived.Test.YtlgcigmolfhamaaGreatDoorKS2
namespace Go.Proofs.YtlgcigmolfhamaaGreatDoor
open Go.RowKit
set_option linter.unusedVariables false
set_option maxRecDepth 100000
set_option maxHeartbeats 16000000
theorem c64{P:Program}{w:World}{ops:Array Oper}{rest:List Oper}{o:Oper}{a:Act}{Q:Exit->Act->World->Prop}(E0:o.guard=none)(s x:Operand)(t:TypeId)(ho:o.op=.call { callee:=.builtin .append,args:=#[s,x],argTypes:=#[t,t] })
 (base:Nat) (e:TypeId) (i:TypeInfo) (z:Value) (size bytes:Nat) (ht:P.underlying t=some (.slice e)) (hi:P.info? e=some i) (hz:i.zero=some z) (D1:i.size=size) (E1:i.bytes=bytes) (E2:z.cells.size=size) (E3:0<size)
 (v:Value) (n:Nat) (xs:List Value) (hs:a.eval s=v) (D3:w.ownsRow base e size v n xs) (m:Nat) (src:Value) (hx:a.eval x=src) (news:List Value) (D9:(∃c,src=.slice none 0 c/\m=0)∨∃ad c,src=.slice (some ad) m c/\∀j u,news[j]? = some u->w.cell? (ad.add j)=some u) (hl:news.length=m*size) (h1:∀u∈news,u.oneCell'=true)
 (E4:n+m<=maxLen) (D0:(n+m)*bytes<=140737488355328) (D2:base<=w.heap.size)
 (h:∀v' w',w'.ownsRow base e size v' (n+m) (xs++news)->w.grownBy w' v.ownBlock->(v'.ownBlock=v.ownBlock∨v'.ownBlock=some w.heap.size)->wpList P ops Q rest (a.put o.dst v') w'):wpList P ops Q (o::rest) a w:=wpList_plain E0 fun K hK=>by
 obtain⟨v',w',hr,h2,h3,h5⟩:=b0l (P:=P) w base t o.type e i z size bytes ht hi hz D1 E1 E2 E3 v n xs D3 m src news D9 hl h1 E4 D0 D2;unfold Oper.wp execOp;simp only[ho,resolve,invoke,builtin,Sem.run_bind,Sem.run_pure,Result.andThen_ok,List.map_toArray,List.map_cons,List.map_nil,hs,hx,hr];exact hK _ _ (h v' w' h2 h3 h5)
theorem c62{w:World}{B:Nat}{v:Value}{ds:List Dc}(h:w.ownsRow B 34 2 v ds.length (ds.flatMap C1)):a0P w w.heap.size v ds:=by
 obtain⟨A,c,rfl,h1,h2⟩:=q9 h;refine⟨A,c,rfl,h1,h2,fun D0 => ?_⟩
 have h0:0<ds.length:=Nat.pos_of_ne_zero (fun e=>by
  have:=j8 e;rw[this]at D0;simp at D0)
 obtain⟨g,cg,e3,_,D2⟩:=h.form h0;simp only[o5]at e3;obtain⟨rfl,_,rfl⟩:=e3;refine⟨g,0,rfl,D2,fun i hi => ?_⟩;have D1:=hi;rw[N2 (f:=C1) (c:=2) (fun _=>rfl)]at D1;rw[F5,h.cellAt i D1];exact i5 _
theorem c6Z(HA:c6c)(A:Option Addr)(c:Nat)(ds:List Dc)(w:World)(hB : 8<=w.heap.size)(hW:Wd w)(E7:a0P w w.heap.size (.slice A ds.length c) ds)(J2:∀d∈ds,d.p.size<=2000000/\d.u.size<=2000000) :
 Calls Tryz.prog 4 #[.slice A ds.length c] w fun e w'=>e=.returned (.bool true)/\Below w.heap.size w w':=by
 have E8:Hid (∀w1,Below w.heap.size w w1->Calls Tryz.prog 10 #[] w1 fun e w'=>e=.returned (.bool true)/\Below w1.heap.size w1 w'):=fun w1 hb=>HA w1 (d8 hB hb.size) (hW.low hB hb);by_cases hn:ds.length<=60
 ·have h0:¬(60:Int)<(ds.length:Int):=by omega
  have J3:=f8 h0;have E3:Hid (∀w1,Below w.heap.size w w1->a0P w1 w1.heap.size (.slice A ds.length c) ds):=fun w1 hb=>R1.mono (R1.below E7 hb) hb.size;have L6:Hid (∀w1,Below w.heap.size w w1->Calls Tryz.prog 17 #[.slice A ds.length c] w1 fun e w' => ∃v' ds',e=.returned v'/\ds'.Perm ds/\c3F ds'/\J8 w' w1.heap.size 34 v' ds.length (ds'.flatMap C1)/\Below w1.heap.size w1 w'):=fun w1 hb=>c4t ds _ w1 (E3.out w1 hb) (by omega) J2
  have L7:Hid (∀w1,Below w.heap.size w w1->Calls Tryz.prog 18 #[.slice A ds.length c] w1 fun e w' => ∃v',e=.returned v'/\w'.ownsRow w1.heap.size 34 2 v' ds.length ((c4k ds).flatMap C1)/\Below w1.heap.size w1 w'):=fun w1 hb=>c6P ds _ w1 (E3.out w1 hb) (by omega)
  obtain⟨i0,L8,L9,M0,M1⟩:=info_parts a0W;have J4:=N2 (f:=C1) (c:=2) (fun _=>rfl) ds;have M2:0+ds.length<=maxLen:=by unfold maxLen;omega
  have M3:(0+ds.length)*32<=140737488355328:=by omega
  go_enter Tryz.func4,Tryz.ntmps4
  go_wp2_with fail
  refine(E8.out _ (b8 _ _)).mono ?_;rintro e w1⟨rfl,D9⟩;have E2:=a8 D9;have G0:Below w.heap.size w (w1.alloc (.cells #[] 34)):=D9.alloc D9.size _;have G1:=a8 (b4g (k:=2) (E3.out _ G0) (by decide) J4)
  have M4:=a8 (c6G (g9 w1 (.cells #[] 34)) (c9 _));clear D9 E7 hW hB
  go_wp2_with (at_builtin;refine c64 (P:=Tryz.prog) rfl (.tmp 12) (.tmp 13) 31 rfl w1.heap.size 34 i0 _ 2 _ Tryz.underlying31 L8 L9 M0 M1 rfl (by omega) (.slice (some ⟨w1.heap.size,0,none⟩) 0 0) 0 [] rfl M4.out ds.length (.slice A ds.length c) rfl (ds.flatMap C1) G1.out J4 (b9b _) M2 M3 (by rw[World.size_alloc];exact Nat.le_succ _) ?_;intro v2 w2 D0 D1 G4;have E0:=Below.grown G0 D1 (by rw[World.size_alloc];exact Nat.le_succ_of_le E2.out.size) (fun k hk=>by simp[Value.ownBlock]at hk;have:=E2.out.size;omega);obtain⟨A2,c2,rfl,_,_⟩:=q9 D0)
  have E4:=a8 E0;have G5:=a8 (L6.out w2 E0)
  have D2:w2.ownsRow w1.heap.size 34 2 (.slice A2 ds.length c2) ds.length (ds.flatMap C1):=by
   have h:=D0;rw[F5]at h;simpa using h
  have M5:=a8 (c62 D2);clear D0 D1 G4 E0 D2 G0
  go_wp2_with fail
  refine G5.out.mono ?_;rintro e w3⟨v3,ds',rfl,J5,J6,J7,E5⟩;have G6:=a8 (E4.out.trans (E5.mono E4.out.size));have M6:=a8 (R1.mono (R1.below M5.out E5) E5.size);have heq:ds'=c4k ds:=c4C J5 J6;have h3:J8 w3 w2.heap.size 34 v3 ds.length ((c4k ds).flatMap C1):=by rw[<-heq];exact J7
  have D3:(c4k ds).length=ds.length:=(c36 ds).length_eq
  have h3':a0P w3 w3.heap.size v3 (c4k ds):=by
   have h:=J8.at h3 (by omega) (fun h0=>by
    have:c4k ds=[]:=j8 (by omega)
    rw[this];rfl)
   unfold a0P;rw[D3];exact h
  have G7:=a8 h3';have G8:=a8 (L7.out w3 G6.out);obtain⟨A3,c3,rfl,_,_,_⟩:=h3';clear E5 J5 J6 J7 heq h3;rw[D3]
  go_wp2_with fail
  refine G8.out.mono ?_;rintro e w4⟨v4,rfl,G9,E1⟩;have J9:=a8 (G6.out.trans (E1.mono G6.out.size));have M7:=a8 (R1.mono (R1.below M6.out E1) E1.size);have L0:a0P w4 w4.heap.size (.slice A3 (c4k ds).length c3) (c4k ds):=R1.mono (R1.below G7.out E1) E1.size;have L1:a0P w4 w4.heap.size v4 (c4k ds):=c62 (by rw[D3];exact G9)
  have L2:=a8 (c4z (c4k ds) _ v4 w4 L0 L1 (by omega))
  rw[D3]at L2;obtain⟨A4,c4,rfl,_,_⟩:=q9 G9;clear E1 G9 L0 L1
  go_wp2_with fail
  refine L2.out.mono ?_;rintro e w5⟨rfl,E6⟩;have J1:=a8 (J9.out.trans (E6.mono J9.out.size));have L3:a0P w5 w5.heap.size (.slice A ds.length c) ds:=E3.out w5 J1.out;have L4:a0P w5 w5.heap.size (.slice A2 ds.length c2) ds:=R1.mono (R1.below M7.out E6) E6.size;have M8:=a8 (c4z ds _ _ w5 L3 L4 (by omega))
  clear E6 L3 L4
  go_wp2_with fail
  refine M8.out.mono ?_;rintro e w6⟨rfl,L5⟩;have M9:=a8 (J1.out.trans (L5.mono J1.out.size));clear L5;go_wp2;go_ret;exact⟨rfl,M9.out⟩
 ·have h0:(60:Int)<(ds.length:Int):=by omega
  have J3:=i6 h0;obtain⟨k,hk⟩ : ∃k,ds.length=k:=⟨_,rfl⟩;rw[hk]at J3 h0 ⊢;clear E7 J2 hk hn hW hB;go_enter Tryz.func4,Tryz.ntmps4
  go_wp2_with fail
  refine(E8.out _ (b8 _ _)).mono ?_;rintro e w1⟨rfl,D9⟩;have N0:=a8 (E8.out w1 D9);have E2:=a8 D9;clear D9
  go_wp2_with fail
  refine N0.out.mono ?_;rintro e w2⟨rfl,E0⟩;have E4:=a8 (E2.out.trans (E0.mono E2.out.size));clear E0;go_wp2;go_ret;exact⟨rfl,E4.out⟩
end Go.Proofs.YtlgcigmolfhamaaGreatDoor
