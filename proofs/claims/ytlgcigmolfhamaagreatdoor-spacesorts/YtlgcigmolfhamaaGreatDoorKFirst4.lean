/-
  The document's own answer for the character that bytes begin with: a first byte of 3. Conditions: the bytes lie where the slice says.
  The document's own answer for the character that bytes begin with: a first byte of 4. Conditions: the bytes lie where the slice says.
-/
import Derived.Test.YtlgcigmolfhamaaGreatDoorK00
import Derived.Deep.RegionWith
import Derived.RegionTactic
namespace Go.Proofs.YtlgcigmolfhamaaGreatDoor
open Go.RowKit
set_option maxRecDepth 100000
set_option maxHeartbeats 4000000
theorem b2z(b o n c:Nat)(x0 x1 x2:UInt8)(w:World)(hn:3<=n)(D0:n<=c)(D1:c<=9223372036854775807)(_hb:b<w.heap.size)(hl:O9 x0.toNat=3)
 (c0:w.cell? ⟨b,o,none⟩=some (.int .u8 (x0.toNat:Int))) (c1:w.cell? ⟨b,o+1,none⟩=some (.int .u8 (x1.toNat:Int))) (c2:w.cell? ⟨b,o+2,none⟩=some (.int .u8 (x2.toNat:Int))) (r:Int) (hr:((((x0.toNat:Int)-224)*64+(x1.toNat:Int)-128)*64+(x2.toNat:Int)-128)=r) (hc:R7 r=false) :
 Calls Tryz.prog 126 #[.slice (some ⟨b,o,none⟩) n c] w fun e w'=>e=.returned (.tuple #[.int .i32 0,.int .i64 0])/\Below w.heap.size w w':=by
 have l0:=x0.toNat_lt;have l1:=x1.toNat_lt;have l2:=x2.toNat_lt;have D2:((n:Int)==0)=false:=by rw[e9];omega
 have D3:¬(n:Int)<3:=by omega
 have D9:(3:Int)<=c:=by omega
 go_enter Tryz.func126,Tryz.ntmps126
 go_wp2_with (go_at_call 176;refine(a0m _ _).mono ?_;rintro e w' ⟨rfl,rfl⟩;rw[hl])
 refine wp_loop_rounds 3 ?_;rw[rounds_succ];go_wp2;rw[rounds_succ];go_wp2;rw[rounds_succ];go_wp2
 go_quiet ((go_at_call 127;exact Calls.quiet_of_same (a4A hc _)))
 go_wp2
 go_ret2
 exact⟨rfl,i7 (b8 _ _) _⟩
theorem a75(b o n c:Nat)(x0 x1 x2:UInt8)(w:World)(hn:3<=n)(D2:n<=c)(D3:c<=9223372036854775807)(hb:b<w.heap.size)(hl:O9 x0.toNat=3)
 (c0:w.cell? ⟨b,o,none⟩=some (.int .u8 (x0.toNat:Int))) (c1:w.cell? ⟨b,o+1,none⟩=some (.int .u8 (x1.toNat:Int))) (c2:w.cell? ⟨b,o+2,none⟩=some (.int .u8 (x2.toNat:Int))) (r:Int) (hr:((((x0.toNat:Int)-224)*64+(x1.toNat:Int)-128)*64+(x2.toNat:Int)-128)=r) (hc:R7 r=true) (E:Bool) (hE:(C3 r == [x0,x1,x2])=E) :
 Calls Tryz.prog 126 #[.slice (some ⟨b,o,none⟩) n c] w fun e w'=>e=.returned (bif E then .tuple #[.int .i32 r,.int .i64 3]else .tuple #[.int .i32 0,.int .i64 0])/\Below w.heap.size w w':=by
 have l0:=x0.toNat_lt;have l1:=x1.toNat_lt;have l2:=x2.toNat_lt;have D9:((n:Int)==0)=false:=by rw[e9];omega
 have E0:¬(n:Int)<3:=by omega
 have E1:(3:Int)<=c:=by omega
 have LA:Q3 w w.heap.size (some ⟨b,o,none⟩) (P6 [x0,x1,x2]):=Y1 hb (fun j hj=>by
  match j,hj with
  |0,_=>exact c0
  |1,_=>exact c1
  |2,_=>exact c2)
 obtain⟨O,hO⟩ : ∃O,Obj.cells (P6 (C3 r)).toArray 5 = O:=⟨_,rfl⟩
 have LB:Q3 (w.alloc O) (w.heap.size+1) (some ⟨w.heap.size,0,none⟩) (P6 (C3 r)):=fun _=>⟨w.heap.size,0,rfl,by omega,fun j hj=>by
  rw[<-hO,World.cell?_alloc_mark];simp⟩
 have hA:=I4 (w:=w.drew) c LA;have D0:=I4 (w:=(w.alloc O).drew) c (LA.below (((b8 _ _).alloc (c9 _) O).drew));have hB:=I4 (w:=(w.alloc O).drew) (C3 r).length LB;simp only[i8,t7]at hA D0;have D1:((⟨(C3 r).toArray⟩ : ByteArray).toList==(⟨[x0,x1,x2].toArray⟩ : ByteArray).toList)=E:=by rw[ByteArray.toList_mk,ByteArray.toList_mk];exact hE
 generalize (⟨(C3 r).toArray⟩ : ByteArray)=s1 at hB D1;generalize (⟨[x0,x1,x2].toArray⟩ : ByteArray)=s2 at hA D0 D1;have K1:∀W,Calls Tryz.prog 177 #[.int .i32 r] W fun e w'=>e=.returned (.slice (some ⟨W.heap.size,0,none⟩) (C3 r).length (C3 r).length)/\W.alloc O=w':=fun W=>by rw[<-hO];exact a0B r hc W
 have HK:=a8 K1;clear K1 hO LA LB hE;generalize (C3 r).length=L at hB HK;cases E
 all_goals
  go_enter Tryz.func126,Tryz.ntmps126
  go_wp2_with (go_at_call 176;refine(a0m _ _).mono ?_;rintro e w' ⟨rfl,rfl⟩;rw[hl])
  refine wp_loop_rounds 3 ?_;rw[rounds_succ];go_wp2;rw[rounds_succ];go_wp2;rw[rounds_succ];go_wp2;clear hr c0
  go_region_with (first|(go_at_call 127;refine(a16 _ _).mono ?_;rintro e w' ⟨rfl,rfl⟩;rw[hc])|(go_at_call 177;refine(HK.out _).mono ?_;rintro e w' ⟨rfl,rfl⟩))
  all_goals go_wp2
  all_goals go_ret2
  all_goals exact⟨rfl,((b8 _ _).alloc (c9 _) O).drew⟩
theorem b2y(b o n c:Nat)(x0 x1 x2 x3:UInt8)(w:World)(hn:4<=n)(D0:n<=c)(D1:c<=9223372036854775807)(_hb:b<w.heap.size)(hl:O9 x0.toNat=4)
 (c0:w.cell? ⟨b,o,none⟩=some (.int .u8 (x0.toNat:Int))) (c1:w.cell? ⟨b,o+1,none⟩=some (.int .u8 (x1.toNat:Int))) (c2:w.cell? ⟨b,o+2,none⟩=some (.int .u8 (x2.toNat:Int))) (c3:w.cell? ⟨b,o+3,none⟩=some (.int .u8 (x3.toNat:Int))) (r:Int) (hr:(((((x0.toNat:Int)-240)*64+(x1.toNat:Int)-128)*64+(x2.toNat:Int)-128)*64+(x3.toNat:Int)-128)=r) (hc:R7 r=false) :
 Calls Tryz.prog 126 #[.slice (some ⟨b,o,none⟩) n c] w fun e w'=>e=.returned (.tuple #[.int .i32 0,.int .i64 0])/\Below w.heap.size w w':=by
 have l0:=x0.toNat_lt;have l1:=x1.toNat_lt;have l2:=x2.toNat_lt;have l3:=x3.toNat_lt;have D2:((n:Int)==0)=false:=by rw[e9];omega
 have D3:¬(n:Int)<4:=by omega
 have D9:(4:Int)<=c:=by omega
 go_enter Tryz.func126,Tryz.ntmps126
 go_wp2_with (go_at_call 176;refine(a0m _ _).mono ?_;rintro e w' ⟨rfl,rfl⟩;rw[hl])
 refine wp_loop_rounds 4 ?_;rw[rounds_succ];go_wp2;rw[rounds_succ];go_wp2;rw[rounds_succ];go_wp2;rw[rounds_succ];go_wp2
 go_quiet ((go_at_call 127;exact Calls.quiet_of_same (a4A hc _)))
 go_wp2
 go_ret2
 exact⟨rfl,i7 (b8 _ _) _⟩
theorem a74(b o n c:Nat)(x0 x1 x2 x3:UInt8)(w:World)(hn:4<=n)(D2:n<=c)(D3:c<=9223372036854775807)(hb:b<w.heap.size)(hl:O9 x0.toNat=4)
 (c0:w.cell? ⟨b,o,none⟩=some (.int .u8 (x0.toNat:Int))) (c1:w.cell? ⟨b,o+1,none⟩=some (.int .u8 (x1.toNat:Int))) (c2:w.cell? ⟨b,o+2,none⟩=some (.int .u8 (x2.toNat:Int))) (c3:w.cell? ⟨b,o+3,none⟩=some (.int .u8 (x3.toNat:Int))) (r:Int) (hr:(((((x0.toNat:Int)-240)*64+(x1.toNat:Int)-128)*64+(x2.toNat:Int)-128)*64+(x3.toNat:Int)-128)=r) (hc:R7 r=true) (E:Bool) (hE:(C3 r == [x0,x1,x2,x3])=E) :
 Calls Tryz.prog 126 #[.slice (some ⟨b,o,none⟩) n c] w fun e w'=>e=.returned (bif E then .tuple #[.int .i32 r,.int .i64 4]else .tuple #[.int .i32 0,.int .i64 0])/\Below w.heap.size w w':=by
 have l0:=x0.toNat_lt;have l1:=x1.toNat_lt;have l2:=x2.toNat_lt;have l3:=x3.toNat_lt;have D9:((n:Int)==0)=false:=by rw[e9];omega
 have E0:¬(n:Int)<4:=by omega
 have E1:(4:Int)<=c:=by omega
 have LA:Q3 w w.heap.size (some ⟨b,o,none⟩) (P6 [x0,x1,x2,x3]):=Y1 hb (fun j hj=>by
  match j,hj with
  |0,_=>exact c0
  |1,_=>exact c1
  |2,_=>exact c2
  |3,_=>exact c3)
 obtain⟨O,hO⟩ : ∃O,Obj.cells (P6 (C3 r)).toArray 5 = O:=⟨_,rfl⟩
 have LB:Q3 (w.alloc O) (w.heap.size+1) (some ⟨w.heap.size,0,none⟩) (P6 (C3 r)):=fun _=>⟨w.heap.size,0,rfl,by omega,fun j hj=>by
  rw[<-hO,World.cell?_alloc_mark];simp⟩
 have hA:=I4 (w:=w.drew) c LA;have D0:=I4 (w:=(w.alloc O).drew) c (LA.below (((b8 _ _).alloc (c9 _) O).drew));have hB:=I4 (w:=(w.alloc O).drew) (C3 r).length LB;simp only[i8,t7]at hA D0;have D1:((⟨(C3 r).toArray⟩ : ByteArray).toList==(⟨[x0,x1,x2,x3].toArray⟩ : ByteArray).toList)=E:=by rw[ByteArray.toList_mk,ByteArray.toList_mk];exact hE
 generalize (⟨(C3 r).toArray⟩ : ByteArray)=s1 at hB D1;generalize (⟨[x0,x1,x2,x3].toArray⟩ : ByteArray)=s2 at hA D0 D1;have K1:∀W,Calls Tryz.prog 177 #[.int .i32 r] W fun e w'=>e=.returned (.slice (some ⟨W.heap.size,0,none⟩) (C3 r).length (C3 r).length)/\W.alloc O=w':=fun W=>by rw[<-hO];exact a0B r hc W
 have HK:=a8 K1;clear K1 hO LA LB hE;generalize (C3 r).length=L at hB HK;cases E
 all_goals
  go_enter Tryz.func126,Tryz.ntmps126
  go_wp2_with (go_at_call 176;refine(a0m _ _).mono ?_;rintro e w' ⟨rfl,rfl⟩;rw[hl])
  refine wp_loop_rounds 4 ?_;rw[rounds_succ];go_wp2;rw[rounds_succ];go_wp2;rw[rounds_succ];go_wp2;rw[rounds_succ];go_wp2;clear hr c0
  go_region_with (first|(go_at_call 127;refine(a16 _ _).mono ?_;rintro e w' ⟨rfl,rfl⟩;rw[hc])|(go_at_call 177;refine(HK.out _).mono ?_;rintro e w' ⟨rfl,rfl⟩))
  all_goals go_wp2
  all_goals go_ret2
  all_goals exact⟨rfl,((b8 _ _).alloc (c9 _) O).drew⟩
end Go.Proofs.YtlgcigmolfhamaaGreatDoor
