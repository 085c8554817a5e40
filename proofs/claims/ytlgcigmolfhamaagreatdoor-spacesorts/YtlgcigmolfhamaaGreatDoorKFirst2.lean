/-
  The document's own answer for the character that bytes begin with: a first byte of 1. Conditions: the bytes lie where the slice says.
  The document's own answer for the character that bytes begin with: a first byte of 2. Conditions: the bytes lie where the slice says.
-/
import Derived.Test.YtlgcigmolfhamaaGreatDoorK00
import Derived.Deep.RegionWith
import Derived.RegionTactic
namespace Go.Proofs.YtlgcigmolfhamaaGreatDoor
open Go.RowKit
set_option maxRecDepth 100000
set_option maxHeartbeats 4000000
theorem b2B(b o n c:Nat)(x0:UInt8)(w:World)(hn:1<=n)(D0:n<=c)(D1:c<=9223372036854775807)(_hb:b<w.heap.size)(hl:O9 x0.toNat=1)
 (c0:w.cell? ⟨b,o,none⟩=some (.int .u8 (x0.toNat:Int)))  (hc:R7 (x0.toNat:Int)=false) :
 Calls Tryz.prog 126 #[.slice (some ⟨b,o,none⟩) n c] w fun e w'=>e=.returned (.tuple #[.int .i32 0,.int .i64 0])/\Below w.heap.size w w':=by
 have l0:=x0.toNat_lt;have D2:((n:Int)==0)=false:=by rw[e9];omega
 have D3:¬(n:Int)<1:=by omega
 have D9:(1:Int)<=c:=by omega
 go_enter Tryz.func126,Tryz.ntmps126
 go_wp2_with (go_at_call 176;refine(a0m _ _).mono ?_;rintro e w' ⟨rfl,rfl⟩;rw[hl])
 refine wp_loop_rounds 1 ?_;rw[rounds_succ];go_wp2
 go_quiet ((go_at_call 127;exact Calls.quiet_of_same (a4A hc _)))
 go_wp2
 go_ret2
 exact⟨rfl,i7 (b8 _ _) _⟩
theorem a77(b o n c:Nat)(x0:UInt8)(w:World)(hn:1<=n)(D2:n<=c)(D3:c<=9223372036854775807)(hb:b<w.heap.size)(hl:O9 x0.toNat=1)
 (c0:w.cell? ⟨b,o,none⟩=some (.int .u8 (x0.toNat:Int)))  (hc:R7 (x0.toNat:Int)=true) (E:Bool) (hE:(C3 (x0.toNat:Int) == [x0])=E) :
 Calls Tryz.prog 126 #[.slice (some ⟨b,o,none⟩) n c] w fun e w'=>e=.returned (bif E then .tuple #[.int .i32 (x0.toNat:Int),.int .i64 1]else .tuple #[.int .i32 0,.int .i64 0])/\Below w.heap.size w w':=by
 have l0:=x0.toNat_lt;have D9:((n:Int)==0)=false:=by rw[e9];omega
 have E0:¬(n:Int)<1:=by omega
 have E1:(1:Int)<=c:=by omega
 have LA:Q3 w w.heap.size (some ⟨b,o,none⟩) (P6 [x0]):=Y1 hb (fun j hj=>by
  match j,hj with
  |0,_=>exact c0)
 obtain⟨O,hO⟩ : ∃O,Obj.cells (P6 (C3 (x0.toNat:Int))).toArray 5 = O:=⟨_,rfl⟩
 have LB:Q3 (w.alloc O) (w.heap.size+1) (some ⟨w.heap.size,0,none⟩) (P6 (C3 (x0.toNat:Int))):=fun _=>⟨w.heap.size,0,rfl,by omega,fun j hj=>by
  rw[<-hO,World.cell?_alloc_mark];simp⟩
 have hA:=I4 (w:=w.drew) c LA;have D0:=I4 (w:=(w.alloc O).drew) c (LA.below (((b8 _ _).alloc (c9 _) O).drew));have hB:=I4 (w:=(w.alloc O).drew) (C3 (x0.toNat:Int)).length LB;simp only[i8,t7]at hA D0;have D1:((⟨(C3 (x0.toNat:Int)).toArray⟩ : ByteArray).toList==(⟨[x0].toArray⟩ : ByteArray).toList)=E:=by rw[ByteArray.toList_mk,ByteArray.toList_mk];exact hE
 generalize (⟨(C3 (x0.toNat:Int)).toArray⟩ : ByteArray)=s1 at hB D1;generalize (⟨[x0].toArray⟩ : ByteArray)=s2 at hA D0 D1;have K1:∀W,Calls Tryz.prog 177 #[.int .i32 (x0.toNat:Int)] W fun e w'=>e=.returned (.slice (some ⟨W.heap.size,0,none⟩) (C3 (x0.toNat:Int)).length (C3 (x0.toNat:Int)).length)/\W.alloc O=w':=fun W=>by rw[<-hO];exact a0B (x0.toNat:Int) hc W
 have HK:=a8 K1;clear K1 hO LA LB hE;generalize (C3 (x0.toNat:Int)).length=L at hB HK;cases E
 all_goals
  go_enter Tryz.func126,Tryz.ntmps126
  go_wp2_with (go_at_call 176;refine(a0m _ _).mono ?_;rintro e w' ⟨rfl,rfl⟩;rw[hl])
  refine wp_loop_rounds 1 ?_;rw[rounds_succ];go_wp2;clear c0
  go_region_with (first|(go_at_call 127;refine(a16 _ _).mono ?_;rintro e w' ⟨rfl,rfl⟩;rw[hc])|(go_at_call 177;refine(HK.out _).mono ?_;rintro e w' ⟨rfl,rfl⟩))
  all_goals go_wp2
  all_goals go_ret2
  all_goals exact⟨rfl,((b8 _ _).alloc (c9 _) O).drew⟩
theorem b2A(b o n c:Nat)(x0 x1:UInt8)(w:World)(hn:2<=n)(D0:n<=c)(D1:c<=9223372036854775807)(_hb:b<w.heap.size)(hl:O9 x0.toNat=2)
 (c0:w.cell? ⟨b,o,none⟩=some (.int .u8 (x0.toNat:Int))) (c1:w.cell? ⟨b,o+1,none⟩=some (.int .u8 (x1.toNat:Int))) (r:Int) (hr:(((x0.toNat:Int)-192)*64+(x1.toNat:Int)-128)=r) (hc:R7 r=false) :
 Calls Tryz.prog 126 #[.slice (some ⟨b,o,none⟩) n c] w fun e w'=>e=.returned (.tuple #[.int .i32 0,.int .i64 0])/\Below w.heap.size w w':=by
 have l0:=x0.toNat_lt;have l1:=x1.toNat_lt;have D2:((n:Int)==0)=false:=by rw[e9];omega
 have D3:¬(n:Int)<2:=by omega
 have D9:(2:Int)<=c:=by omega
 go_enter Tryz.func126,Tryz.ntmps126
 go_wp2_with (go_at_call 176;refine(a0m _ _).mono ?_;rintro e w' ⟨rfl,rfl⟩;rw[hl])
 refine wp_loop_rounds 2 ?_;rw[rounds_succ];go_wp2;rw[rounds_succ];go_wp2
 go_quiet ((go_at_call 127;exact Calls.quiet_of_same (a4A hc _)))
 go_wp2
 go_ret2
 exact⟨rfl,i7 (b8 _ _) _⟩
theorem a76(b o n c:Nat)(x0 x1:UInt8)(w:World)(hn:2<=n)(D2:n<=c)(D3:c<=9223372036854775807)(hb:b<w.heap.size)(hl:O9 x0.toNat=2)
 (c0:w.cell? ⟨b,o,none⟩=some (.int .u8 (x0.toNat:Int))) (c1:w.cell? ⟨b,o+1,none⟩=some (.int .u8 (x1.toNat:Int))) (r:Int) (hr:(((x0.toNat:Int)-192)*64+(x1.toNat:Int)-128)=r) (hc:R7 r=true) (E:Bool) (hE:(C3 r == [x0,x1])=E) :
 Calls Tryz.prog 126 #[.slice (some ⟨b,o,none⟩) n c] w fun e w'=>e=.returned (bif E then .tuple #[.int .i32 r,.int .i64 2]else .tuple #[.int .i32 0,.int .i64 0])/\Below w.heap.size w w':=by
 have l0:=x0.toNat_lt;have l1:=x1.toNat_lt;have D9:((n:Int)==0)=false:=by rw[e9];omega
 have E0:¬(n:Int)<2:=by omega
 have E1:(2:Int)<=c:=by omega
 have LA:Q3 w w.heap.size (some ⟨b,o,none⟩) (P6 [x0,x1]):=Y1 hb (fun j hj=>by
  match j,hj with
  |0,_=>exact c0
  |1,_=>exact c1)
 obtain⟨O,hO⟩ : ∃O,Obj.cells (P6 (C3 r)).toArray 5 = O:=⟨_,rfl⟩
 have LB:Q3 (w.alloc O) (w.heap.size+1) (some ⟨w.heap.size,0,none⟩) (P6 (C3 r)):=fun _=>⟨w.heap.size,0,rfl,by omega,fun j hj=>by
  rw[<-hO,World.cell?_alloc_mark];simp⟩
 have hA:=I4 (w:=w.drew) c LA;have D0:=I4 (w:=(w.alloc O).drew) c (LA.below (((b8 _ _).alloc (c9 _) O).drew));have hB:=I4 (w:=(w.alloc O).drew) (C3 r).length LB;simp only[i8,t7]at hA D0;have D1:((⟨(C3 r).toArray⟩ : ByteArray).toList==(⟨[x0,x1].toArray⟩ : ByteArray).toList)=E:=by rw[ByteArray.toList_mk,ByteArray.toList_mk];exact hE
 generalize (⟨(C3 r).toArray⟩ : ByteArray)=s1 at hB D1;generalize (⟨[x0,x1].toArray⟩ : ByteArray)=s2 at hA D0 D1;have K1:∀W,Calls Tryz.prog 177 #[.int .i32 r] W fun e w'=>e=.returned (.slice (some ⟨W.heap.size,0,none⟩) (C3 r).length (C3 r).length)/\W.alloc O=w':=fun W=>by rw[<-hO];exact a0B r hc W
 have HK:=a8 K1;clear K1 hO LA LB hE;generalize (C3 r).length=L at hB HK;cases E
 all_goals
  go_enter Tryz.func126,Tryz.ntmps126
  go_wp2_with (go_at_call 176;refine(a0m _ _).mono ?_;rintro e w' ⟨rfl,rfl⟩;rw[hl])
  refine wp_loop_rounds 2 ?_;rw[rounds_succ];go_wp2;rw[rounds_succ];go_wp2;clear hr c0
  go_region_with (first|(go_at_call 127;refine(a16 _ _).mono ?_;rintro e w' ⟨rfl,rfl⟩;rw[hc])|(go_at_call 177;refine(HK.out _).mono ?_;rintro e w' ⟨rfl,rfl⟩))
  all_goals go_wp2
  all_goals go_ret2
  all_goals exact⟨rfl,((b8 _ _).alloc (c9 _) O).drew⟩
end Go.Proofs.YtlgcigmolfhamaaGreatDoor
