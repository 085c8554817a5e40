/-
  apostillelaw09.awake. Conditions: the tables lie as they are laid.
-/
import Derived.Test.YtlgcigmolfhamaaGreatDoorK56
import Derived.Test.YtlgcigmolfhamaaGreatDoorKTell
import Derived.Test.YtlgcigmolfhamaaGreatDoorKS7
namespace Go.Proofs.YtlgcigmolfhamaaGreatDoor
open Go.RowKit
set_option linter.unusedVariables false
set_option maxRecDepth 100000
set_option maxHeartbeats 8000000
def c6c:Prop:=∀w:World,8<=w.heap.size->Wd w->Calls Tryz.prog 10 #[] w fun e w'=>e=.returned (.bool true)/\Below w.heap.size w w'
def c5X:List UInt8:=[60,97,32,120,109,108,110,115,61,39,117,39,47,62]
def c6B:Nd:=⟨1,0,⟨#[]⟩,⟨#[97]⟩,⟨#[117]⟩,⟨#[]⟩,[⟨⟨#[]⟩,⟨#[117]⟩⟩],[]⟩
def c5p:List Nd:=[Y3,c6B]
theorem c5z:X4 c5X=.inr c5p:=a1l (l:=c5p) (by kernel_rfl) (by kernel_rfl)
theorem c58:∀x∈c5p,Sm x:=a4v (bs:=c5X) (by decide) (a2R c5z).1
theorem c5f:W4 c5p c5p.length/\pa c5p 0 = -1:=by
 constructor
 ·intro j h1 h2
  have h2:j<2:=h2;obtain rfl:j=1:=by omega
  decide
 ·decide
theorem c59:scD c5p 1=[c43,⟨⟨#[]⟩,⟨#[117]⟩⟩]:=by
 have e:scD c5p 1=c48 c5p 1:=rfl;rw[e];unfold c48 c5q;rw[c4i (by decide),c4h (by decide)]
 rfl
theorem c6u:N4 ⟨#[117]⟩ []=false:=by rw[<-Bool.not_eq_true,a0p];decide
theorem c6m:c41 [c43,⟨⟨#[]⟩,⟨#[117]⟩⟩] (⟨#[]⟩ : ByteArray).data.toList=(⟨#[117]⟩,true):=by
 unfold c41;rw[c4Z,f6 (by decide),c4Z,g8 rfl]
 show((⟨#[117]⟩ : ByteArray),!N4 ⟨#[117]⟩ [])=_
 rw[c6u];rfl
theorem c6l:(c4X [c43,⟨⟨#[]⟩,⟨#[117]⟩⟩]).length=2:=by
 have h1:N4 c43.u []=false:=by rw[<-Bool.not_eq_true,a0p];decide
 have h2:a0b [c43] ([] : List UInt8)=none:=by rw[c4Z,f6 (by decide)];rfl
 have e1:c5c [] c43=true:=by unfold c5c;rw[h1];rfl
 have e2:c5c ([]++[c43]) ⟨⟨#[]⟩,⟨#[117]⟩⟩=true:=by
  unfold c5c
  show((a0b [c43] ([] : List UInt8)).isNone && !N4 ⟨#[117]⟩ [])=true
  rw[h2,c6u];rfl
 unfold c4X;rw[c46,c46,c46,e1,e2];rfl
theorem c6t:J6 c5p=true:=(a2R c5z).2.2
theorem c6s:c6c:=fun w hB hW=>by
 have HC:Hid (Calls Tryz.prog 11 #[.slice (some ⟨w.heap.size,0,none⟩) 14 14] (w.alloc (.cells #[.int .u8 60,.int .u8 97,.int .u8 32,.int .u8 120,.int .u8 109,.int .u8 108,.int .u8 110,.int .u8 115,.int .u8 61,.int .u8 39,.int .u8 117,.int .u8 39,.int .u8 47,.int .u8 62] 5 (14,15))) fun e w'=>(∃d B',e=.returned (.tuple #[.pointer (some ⟨d,0,none⟩),.int .i64 0])/\a0Q w' B' d c5p)/\Below w.heap.size w w'):=by
  have D0:Below w.heap.size w (w.alloc (.cells (P6 c5X).toArray 5 (14,15))):=(b8 _ _).alloc (c9 _) _;have h:=a32 (some ⟨w.heap.size,0,none⟩) 14 c5X (w.alloc (.cells (P6 c5X).toArray 5 (14,15))) (d8 hB D0.size) (hW.low hB D0) (b4S c5X w (14,15)) (by decide) (by decide) (by decide)
  refine Calls.mono h fun e w' ⟨h1,h2⟩=>⟨?_,D0.trans (h2.mono D0.size)⟩;rw[c5z]at h1;obtain⟨d,B',_,he,hd⟩:=h1;exact⟨d,B',he,hd⟩
 have E2:∀W:World,(convert 22 22 (.slice (some ⟨W.heap.size,0,none⟩) 14 14)).run Tryz.prog (W.alloc (.cells #[.int .u8 60,.int .u8 97,.int .u8 32,.int .u8 120,.int .u8 109,.int .u8 108,.int .u8 110,.int .u8 115,.int .u8 61,.int .u8 39,.int .u8 117,.int .u8 39,.int .u8 47,.int .u8 62] 5))=.ok (.slice (some ⟨W.heap.size,0,none⟩) 14 14) (W.alloc (.cells #[.int .u8 60,.int .u8 97,.int .u8 32,.int .u8 120,.int .u8 109,.int .u8 108,.int .u8 110,.int .u8 115,.int .u8 61,.int .u8 39,.int .u8 117,.int .u8 39,.int .u8 47,.int .u8 62] 5 (14,15))):=fun W=>b7i W _ 14 14;clear hB hW;go_enter Tryz.func10,Tryz.ntmps10
 go_wp2_with fail
 refine HC.out.mono ?_;rintro e w1⟨⟨d,B',rfl,hd⟩,D2⟩;have D3:=a8 D2;have HD:=a8 hd
 have HF:Hid (Calls Tryz.prog 14 #[.pointer (some ⟨d,0,none⟩),.int .i64 1,.string ⟨#[]⟩] w1 fun e w'=>e=.returned (.tuple #[.string ⟨#[117]⟩,.bool true])/\Below w1.heap.size w1 w'):=by
  have h:=c5D (some ⟨d,0,none⟩) 1 ⟨#[]⟩ w1 _ (c5g 1 w1 hd (by decide) c58 c5f.1 c5f.2)
  rw[c59,c6m]at h;exact h
 clear D2 hd
 go_wp2_with fail
 refine HF.out.mono ?_;rintro e w2⟨rfl,D1⟩;have D9:=a8 (D3.out.trans (D1.mono D3.out.size))
 have HS:Hid (Calls Tryz.prog 16 #[.pointer (some ⟨d,0,none⟩),.int .i64 1] w2 fun e w' => ∃A c,e=.returned (.slice A 2 c)/\Below w2.heap.size w2 w'):=by
  refine(c5s 1 w2 (HD.out.later D1) (by decide) c58 c5f.1 c5f.2 (c5G c6t 1)).mono ?_
  rintro e w'⟨v,ds,rfl,hp,_,hv,hb⟩;rw[c59]at hp;have hl:ds.length=2:=hp.length_eq.trans c6l;obtain⟨A,c,rfl,_⟩:=hv;rw[hl];exact⟨_,_,rfl,hb⟩
 clear D1
 go_wp2_with fail
 refine HS.out.mono ?_;rintro e w3⟨A3,c3,rfl,E0⟩;have E1:=a8 (D9.out.trans (E0.mono D9.out.size));clear E0;go_wp2;go_ret;exact⟨rfl,E1.out⟩
end Go.Proofs.YtlgcigmolfhamaaGreatDoor
