/-
  The document's own answer for the character that bytes begin with: a first byte of 1. Conditions: the bytes lie where the slice says.
  The document's own answer for the character that bytes begin with: a first byte of 2. Conditions: the bytes lie where the slice says.
-/
import Derived.Test.YteinegfbpfhflaaGreatDoorM00
import Derived.Deep.RegionWith
import Derived.RegionTactic
namespace Go.Proofs.YteinegfbpfhflaaGreatDoor
open Go.RowKit
set_option maxRecDepth 100000
set_option maxHeartbeats 4000000
theorem xN(b o n c:Nat)(x0:UInt8)(w:World)(hn:1<=n)(hnc:n<=c)(hcm:c<=9223372036854775807)(_hb:b<w.heap.size)(hl:dU x0.toNat=1)
 (c0:w.cell? ⟨b,o,none⟩=some (.int .u8 (x0.toNat:Int)))  (hc:eA (x0.toNat:Int)=false) :
 Calls Tryz.prog 98 #[.slice (some ⟨b,o,none⟩) n c] w fun e w'=>e=.returned (.tuple #[.int .i32 0,.int .i64 0])/\Below w.heap.size w w':=by
 have l0:=x0.toNat_lt;have hn0:((n:Int)==0)=false:=by rw[ak];omega
 have hn2:¬(n:Int)<1:=by omega
 have hc2:(1:Int)<=c:=by omega
 go_enter Tryz.func98,Tryz.ntmps98
 go_wp2_with (go_at_call 148;refine(f9 _ _).mono ?_;rintro e w' ⟨rfl,rfl⟩;rw[hl])
 refine wp_loop_rounds 1 ?_;rw[rounds_succ];go_wp2
 go_quiet ((go_at_call 99;exact Calls.quiet_of_same (mH hc _)))
 go_wp2
 go_ret2
 exact⟨rfl,ay (ae _ _) _⟩
theorem rH(b o n c:Nat)(x0:UInt8)(w:World)(hn:1<=n)(hnc:n<=c)(hcm:c<=9223372036854775807)(hb:b<w.heap.size)(hl:dU x0.toNat=1)
 (c0:w.cell? ⟨b,o,none⟩=some (.int .u8 (x0.toNat:Int)))  (hc:eA (x0.toNat:Int)=true) (E:Bool) (hE:(bD (x0.toNat:Int) == [x0])=E) :
 Calls Tryz.prog 98 #[.slice (some ⟨b,o,none⟩) n c] w fun e w'=>e=.returned (bif E then .tuple #[.int .i32 (x0.toNat:Int),.int .i64 1]else .tuple #[.int .i32 0,.int .i64 0])/\Below w.heap.size w w':=by
 have l0:=x0.toNat_lt;have hn0:((n:Int)==0)=false:=by rw[ak];omega
 have hn2:¬(n:Int)<1:=by omega
 have hc2:(1:Int)<=c:=by omega
 have LA:en w w.heap.size (some ⟨b,o,none⟩) (ec [x0]):=fI hb (fun j hj=>by
  match j,hj with
  |0,_=>exact c0)
 obtain⟨O,hO⟩ : ∃O,Obj.cells (ec (bD (x0.toNat:Int))).toArray 5 = O:=⟨_,rfl⟩
 have LB:en (w.alloc O) (w.heap.size+1) (some ⟨w.heap.size,0,none⟩) (ec (bD (x0.toNat:Int))):=fun _=>⟨w.heap.size,0,rfl,by omega,fun j hj=>by
  rw[<-hO,World.cell?_alloc_mark];simp⟩
 have hA:=cF (w:=w.drew) c LA;have hA2:=cF (w:=(w.alloc O).drew) c (LA.below (((ae _ _).alloc (af _) O).drew));have hB:=cF (w:=(w.alloc O).drew) (bD (x0.toNat:Int)).length LB;simp only[az,bb]at hA hA2;have hEq:((⟨(bD (x0.toNat:Int)).toArray⟩ : ByteArray).toList==(⟨[x0].toArray⟩ : ByteArray).toList)=E:=by rw[ByteArray.toList_mk,ByteArray.toList_mk];exact hE
 generalize (⟨(bD (x0.toNat:Int)).toArray⟩ : ByteArray)=s1 at hB hEq;generalize (⟨[x0].toArray⟩ : ByteArray)=s2 at hA hA2 hEq;have K1:∀W,Calls Tryz.prog 149 #[.int .i32 (x0.toNat:Int)] W fun e w'=>e=.returned (.slice (some ⟨W.heap.size,0,none⟩) (bD (x0.toNat:Int)).length (bD (x0.toNat:Int)).length)/\W.alloc O=w':=fun W=>by rw[<-hO];exact gy (x0.toNat:Int) hc W
 have HK:=aa K1;clear K1 hO LA LB hE;generalize (bD (x0.toNat:Int)).length=L at hB HK;cases E
 all_goals
  go_enter Tryz.func98,Tryz.ntmps98
  go_wp2_with (go_at_call 148;refine(f9 _ _).mono ?_;rintro e w' ⟨rfl,rfl⟩;rw[hl])
  refine wp_loop_rounds 1 ?_;rw[rounds_succ];go_wp2;clear c0
  go_region_with (first|(go_at_call 99;refine(jo _ _).mono ?_;rintro e w' ⟨rfl,rfl⟩;rw[hc])|(go_at_call 149;refine(HK.out _).mono ?_;rintro e w' ⟨rfl,rfl⟩))
  all_goals go_wp2
  all_goals go_ret2
  all_goals exact⟨rfl,((ae _ _).alloc (af _) O).drew⟩
theorem xM(b o n c:Nat)(x0 x1:UInt8)(w:World)(hn:2<=n)(hnc:n<=c)(hcm:c<=9223372036854775807)(_hb:b<w.heap.size)(hl:dU x0.toNat=2)
 (c0:w.cell? ⟨b,o,none⟩=some (.int .u8 (x0.toNat:Int))) (c1:w.cell? ⟨b,o+1,none⟩=some (.int .u8 (x1.toNat:Int))) (r:Int) (hr:(((x0.toNat:Int)-192)*64+(x1.toNat:Int)-128)=r) (hc:eA r=false) :
 Calls Tryz.prog 98 #[.slice (some ⟨b,o,none⟩) n c] w fun e w'=>e=.returned (.tuple #[.int .i32 0,.int .i64 0])/\Below w.heap.size w w':=by
 have l0:=x0.toNat_lt;have l1:=x1.toNat_lt;have hn0:((n:Int)==0)=false:=by rw[ak];omega
 have hn2:¬(n:Int)<2:=by omega
 have hc2:(2:Int)<=c:=by omega
 go_enter Tryz.func98,Tryz.ntmps98
 go_wp2_with (go_at_call 148;refine(f9 _ _).mono ?_;rintro e w' ⟨rfl,rfl⟩;rw[hl])
 refine wp_loop_rounds 2 ?_;rw[rounds_succ];go_wp2;rw[rounds_succ];go_wp2
 go_quiet ((go_at_call 99;exact Calls.quiet_of_same (mH hc _)))
 go_wp2
 go_ret2
 exact⟨rfl,ay (ae _ _) _⟩
theorem rG(b o n c:Nat)(x0 x1:UInt8)(w:World)(hn:2<=n)(hnc:n<=c)(hcm:c<=9223372036854775807)(hb:b<w.heap.size)(hl:dU x0.toNat=2)
 (c0:w.cell? ⟨b,o,none⟩=some (.int .u8 (x0.toNat:Int))) (c1:w.cell? ⟨b,o+1,none⟩=some (.int .u8 (x1.toNat:Int))) (r:Int) (hr:(((x0.toNat:Int)-192)*64+(x1.toNat:Int)-128)=r) (hc:eA r=true) (E:Bool) (hE:(bD r == [x0,x1])=E) :
 Calls Tryz.prog 98 #[.slice (some ⟨b,o,none⟩) n c] w fun e w'=>e=.returned (bif E then .tuple #[.int .i32 r,.int .i64 2]else .tuple #[.int .i32 0,.int .i64 0])/\Below w.heap.size w w':=by
 have l0:=x0.toNat_lt;have l1:=x1.toNat_lt;have hn0:((n:Int)==0)=false:=by rw[ak];omega
 have hn2:¬(n:Int)<2:=by omega
 have hc2:(2:Int)<=c:=by omega
 have LA:en w w.heap.size (some ⟨b,o,none⟩) (ec [x0,x1]):=fI hb (fun j hj=>by
  match j,hj with
  |0,_=>exact c0
  |1,_=>exact c1)
 obtain⟨O,hO⟩ : ∃O,Obj.cells (ec (bD r)).toArray 5 = O:=⟨_,rfl⟩
 have LB:en (w.alloc O) (w.heap.size+1) (some ⟨w.heap.size,0,none⟩) (ec (bD r)):=fun _=>⟨w.heap.size,0,rfl,by omega,fun j hj=>by
  rw[<-hO,World.cell?_alloc_mark];simp⟩
 have hA:=cF (w:=w.drew) c LA;have hA2:=cF (w:=(w.alloc O).drew) c (LA.below (((ae _ _).alloc (af _) O).drew));have hB:=cF (w:=(w.alloc O).drew) (bD r).length LB;simp only[az,bb]at hA hA2;have hEq:((⟨(bD r).toArray⟩ : ByteArray).toList==(⟨[x0,x1].toArray⟩ : ByteArray).toList)=E:=by rw[ByteArray.toList_mk,ByteArray.toList_mk];exact hE
 generalize (⟨(bD r).toArray⟩ : ByteArray)=s1 at hB hEq;generalize (⟨[x0,x1].toArray⟩ : ByteArray)=s2 at hA hA2 hEq;have K1:∀W,Calls Tryz.prog 149 #[.int .i32 r] W fun e w'=>e=.returned (.slice (some ⟨W.heap.size,0,none⟩) (bD r).length (bD r).length)/\W.alloc O=w':=fun W=>by rw[<-hO];exact gy r hc W
 have HK:=aa K1;clear K1 hO LA LB hE;generalize (bD r).length=L at hB HK;cases E
 all_goals
  go_enter Tryz.func98,Tryz.ntmps98
  go_wp2_with (go_at_call 148;refine(f9 _ _).mono ?_;rintro e w' ⟨rfl,rfl⟩;rw[hl])
  refine wp_loop_rounds 2 ?_;rw[rounds_succ];go_wp2;rw[rounds_succ];go_wp2;clear hr c0
  go_region_with (first|(go_at_call 99;refine(jo _ _).mono ?_;rintro e w' ⟨rfl,rfl⟩;rw[hc])|(go_at_call 149;refine(HK.out _).mono ?_;rintro e w' ⟨rfl,rfl⟩))
  all_goals go_wp2
  all_goals go_ret2
  all_goals exact⟨rfl,((ae _ _).alloc (af _) O).drew⟩
end Go.Proofs.YteinegfbpfhflaaGreatDoor
