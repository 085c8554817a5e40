/-
  apostillelaw08.ParseLimits. Conditions: the tables lie as they are laid; awake answers as it is to.
  apostillelaw08.ParseTypes. Conditions: the tables lie as they are laid; awake answers as it is to.
-/
import Derived.Test.YteinegfbpfhflaaGreatDoorK56
namespace Go.Proofs.YteinegfbpfhflaaGreatDoor
open Go.RowKit
set_option linter.unusedVariables false
set_option maxRecDepth 100000
set_option maxHeartbeats 32000000
def a0Y:Nat->List UInt8
 |0 => []
 |n+1 => [60,97,62]++a0Y n++[60,47,97,62]
def a1w(n:Nat):List Nd:=Y3::(List.range n).map fun(i:Nat)=>⟨1,(i:Int),⟨#[]⟩,⟨#[97]⟩,⟨#[]⟩,⟨#[]⟩,[],[]⟩
theorem a1f:∀n,(a0Y n).length=7*n
 |0=>rfl
 |n+1=>by rw[a0Y,e8,e8,a1f n];simp;omega
theorem a7T(n:Nat):(a1w n).length=n+1:=by simp[a1w]
theorem b0D(n:Nat)(h1:60<=n)(h2:n<=69):X4 (a0Y n)=if n<=64 then .inr (a1w n)else .inl 3:=by
 have hc:n=60∨n=61∨n=62∨n=63∨n=64∨n=65∨n=66∨n=67∨n=68∨n=69:=by omega
 rcases hc with rfl|rfl|rfl|rfl|rfl|rfl|rfl|rfl|rfl|rfl
 ·exact(a1l (l:=a1w 60) (by kernel_rfl) (by kernel_rfl)).trans (by kernel_rfl)
 ·exact(a1l (l:=a1w 61) (by kernel_rfl) (by kernel_rfl)).trans (by kernel_rfl)
 ·exact(a1l (l:=a1w 62) (by kernel_rfl) (by kernel_rfl)).trans (by kernel_rfl)
 ·exact(a1l (l:=a1w 63) (by kernel_rfl) (by kernel_rfl)).trans (by kernel_rfl)
 ·exact(a1l (l:=a1w 64) (by kernel_rfl) (by kernel_rfl)).trans (by kernel_rfl)
 ·exact(a1l (l:=a1w 65) (by kernel_rfl) (by kernel_rfl)).trans (by kernel_rfl)
 ·exact(a1l (l:=a1w 66) (by kernel_rfl) (by kernel_rfl)).trans (by kernel_rfl)
 ·exact(a1l (l:=a1w 67) (by kernel_rfl) (by kernel_rfl)).trans (by kernel_rfl)
 ·exact(a1l (l:=a1w 68) (by kernel_rfl) (by kernel_rfl)).trans (by kernel_rfl)
 ·exact(a1l (l:=a1w 69) (by kernel_rfl) (by kernel_rfl)).trans (by kernel_rfl)
theorem b3S(a b:List UInt8):ba a++ba b=ba (a++b):=G0 (by simp[ba])
theorem b4z(n:Nat):(⟨#[60,97,62]⟩ : ByteArray)++ba (a0Y n)++⟨#[60,47,97,62]⟩=ba (a0Y (n+1)):=by
 show ba [60,97,62]++ba (a0Y n)++ba [60,47,97,62]=_
 rw[b3S,b3S];rfl
theorem a90{x:Int}(wx:(Lit.int .u8 x).wf=true):0<=x/\x<256:=by
 have h:IntKind.u8.min<=x/\x<=IntKind.u8.max:=by simpa [Lit.wf]using wx
 have e1:IntKind.u8.min=0:=rfl;have e2:IntKind.u8.max=255:=rfl;omega
theorem b2e(l:List UInt8)(g cap:Nat)(w:World)(hB : 8<=w.heap.size)(hW:Wd w)(hn:l.length<=40000)(B:Nat)(ho:Own w B (.slice (some ⟨g,0,none⟩) l.length cap) l) :
 Calls Tryz.prog 12 #[.slice (some ⟨g,0,none⟩) l.length cap] w fun e w'=>b1G (X4 l) w.heap.size e w'/\Below w.heap.size w w':=by
 obtain⟨A,c,e,h1,h2,h3⟩:=ho.lies;cases e;exact a32 _ cap l w hB hW h3 h1 h2 hn
theorem b2p(HA:b1I)(x:Int)(wx:(Lit.int .u8 x).wf=true)(w:World)(hB : 8<=w.heap.size)(hW:Wd w) :
 Calls Tryz.prog 6 #[.int .u8 x] w fun e w'=>e=.returned (.bool true)/\Below w.heap.size w w':=by
 obtain⟨h0,h1⟩:=a90 wx;obtain⟨m,rfl⟩ : ∃m:Nat,x=(m:Int):=⟨x.toNat,by omega⟩
 clear wx;obtain⟨n,hn⟩ : ∃n:Nat,60+m%10=n:=⟨_,rfl⟩;have E1:60<=n:=by omega
 have E2:n<=69:=by omega
 have G6:(60:Int)+(m:Int)%10=(n:Int):=by omega
 have G0:=a8 (HA w hB hW)
 have HP:Hid (∀w1 cpW (g B':Nat),Below w.heap.size w w1->Own w1 B' (.slice (some ⟨g,0,none⟩) (7*n) cpW) (a0Y n)->Calls Tryz.prog 12 #[.slice (some ⟨g,0,none⟩) ((7*n:Nat)) cpW] w1 fun e w'=>b1G (X4 (a0Y n)) w1.heap.size e w'/\Below w1.heap.size w1 w'):=fun w1 cpW g B' hb ho=>by
  rw[<-a1f n]at ho ⊢;exact b2e _ g cpW w1 (d8 hB hb.size) (hW.low hB hb) (by rw[a1f];omega) _ ho
 have HD:=a8 (b0D n E1 E2);have G1:Hid (n<=64->∀x∈a1w n,Sm x):=fun h=>a4v (bs:=a0Y n) (by rw[a1f];omega) (a2R (by rw[b0D n E1 E2,g8 h])).1
 clear hn hW hB;go_enter Tryz.func6,Tryz.ntmps6
 go_wp2_with fail
 refine G0.out.mono ?_;rintro e w1⟨rfl,E3⟩;have E4:=a8 E3;clear E3;go_wp2
 go_loopw [4,14] (fun v i wr => ∃k:Nat,k<=n/\v=.string (ba (a0Y k))/\i=.int .i64 (k:Int)/\wr=w1) (fun _ i _=>n-(intOf i).toNat)
 case atStart=>exact⟨0,o4 _,rfl,rfl,rfl⟩
 case round =>
  obtain⟨k,hk,rfl,rfl,rfl⟩:=hrel;have E5:=a8 (b4z k);by_cases G7:k<n
  ·have G8:(k:Int)<(n:Int):=by omega
   have G9:(ba (a0Y k)).size<=500:=by rw[I9,a1f];omega
   generalize ba (a0Y k)=Z at *;go_wp2
   go_roundw
   case rel=>exact⟨k+1,by omega,congrArg Value.string E5.out,by go_num,trivial⟩
   case measure=>simp[intOf];omega
  ·have J1:¬(k:Int)<(n:Int):=by omega
   have D2:k=n:=by omega
   subst D2;obtain⟨cpW,W,G4,_,_,E6,_,_,D0⟩:=a0M (ba (a0Y k)) (by rw[I9,a1f];omega) wr
   have hs:(ba (a0Y k)).size=7*k:=by rw[I9,a1f]
   rw[hs]at G4 D0;rw[B5]at D0;have D3:=a8 (E4.out.trans (E6.mono E4.out.size));have HC:=a8 (HP.out W cpW wr.heap.size _ D3.out D0);clear E6 D0 hs E5 HP;generalize ba (a0Y k)=Z at *
   go_wp2_with fail
   refine HC.out.mono ?_;rintro e w2⟨he,D9⟩;have E7:=a8 (D3.out.trans (D9.mono D3.out.size));rw[HD.out]at he;by_cases E0:k<=64
   ·rw[g8 E0]at he
    obtain⟨d,B',_,rfl,D1⟩:=he;have G5:(k:Int)<=64:=by omega
    have E8:=a8 (a9e w2 D1 (by rw[a7T];omega) (G1.out E0))
    rw[a7T]at E8;clear D9 D1
    go_wp2_with fail
    refine E8.out.mono ?_;rintro e w3⟨rfl,rfl⟩;go_wp2;go_ret;exact⟨rfl,E7.out⟩
   ·rw[f6 E0]at he
    have he':e=.returned (.tuple #[.pointer none,.int .i64 3]):=he;subst he';have G5:¬(k:Int)<=64:=by omega
    have J2:(64:Int)<(k:Int):=by omega
    clear D9 he;go_wp2;go_ret;exact⟨rfl,E7.out⟩
def dtL:List UInt8:=[60,33,68,79,67,84,89,80,69,32,97,62]
def a4S(q:Nat):List UInt8:=if q=0 then[]else if q=1 then[32]else if q=2 then[60,63,97,63,62]else[60,33,45,45,98,45,45,62,10]
theorem a8U(q:Nat):(a4S q).length<=9:=by
 unfold a4S
 split
 ·decide
 ·split
  ·decide
  ·split<;>decide
theorem a7Y:∀{p:List UInt8},(13:UInt8)∉p->∀r,C4 (p++r)=p++C4 r
 | [],_,r=>rfl
 |c::p,h,r=>by
  simp only[q8,not_or]at h;rw[i9,Y5,f6 (Ne.symm h.1),a7Y h.2];rfl
theorem b5Q:M4 [33,68,79,67,84,89,80,69]=none:=a5g fun p l h=>by
 rcases h with⟨_,_,h⟩|⟨_,_,he⟩
 ·have e:([33,68,79,67,84,89,80,69] : List UInt8)=y9 [33,68,79,67,84,89,80,69]:=by decide
  rw[e,a87 (by decide)]at h
  exact absurd h.2 (by decide)
 ·have D0:(58:UInt8)∈([33,68,79,67,84,89,80,69] : List UInt8):=by rw[he];simp
  exact absurd D0 (by decide)
theorem a5R(n:Nat)(ns:List Nd)(o:Po)(ds:List Dc)(tx:List UInt8)(R:List UInt8):Q7 n ⟨dtL++R,ns,[o],ds,tx⟩=none:=by
 cases n with
 |zero=>rfl
 |succ n =>
  have h1:L0 ⟨dtL++R,ns,[o],ds,tx⟩ [] o=a1Q ⟨[33,68,79,67,84,89,80,69,32,97,62]++R,ns,[o],ds,tx⟩ o:=by kernel_rfl
  have h2:a1Q ⟨[33,68,79,67,84,89,80,69,32,97,62]++R,ns,[o],ds,tx⟩ o=none:=by
   unfold a1Q;dsimp only;rw[show G9 y8 ([33,68,79,67,84,89,80,69,32,97,62]++R)=[33,68,79,67,84,89,80,69]by kernel_rfl,b5Q]
  rw[Q7,f6 (by simp[dtL])]
  show(match L0 ⟨dtL++R,ns,[o],ds,tx⟩ [] o with|none=>none|some st'=>Q7 n st')=none
  rw[h1,h2]
theorem b7Y(q:Nat)(b:List UInt8):X4 (a4S q++dtL++b)=.inl 2:=by
 have D0:(13:UInt8)∉a4S q++dtL:=by
  unfold a4S
  split
  ·decide
  ·split
   ·decide
   ·split<;>decide
 have hd:a2Q L1 (a4S q++dtL++b)=none:=by
  unfold a2Q
  split
  ·rw[a7Y D0]
   generalize C4 b=R;unfold a4S;by_cases h0:q=0
   ·rw[g8 h0]
    rw[show L1 ([]++dtL++R)=dtL++R by kernel_rfl]
    exact a5R _ _ _ _ _ _
   ·rw[f6 h0]
    by_cases h1:q=1
    ·rw[g8 h1]
     rw[show L1 ([32]++dtL++R)=32::(dtL++R)by kernel_rfl]
     rw[show Q7 ((32::(dtL++R)).length+1) (rd0 (32::(dtL++R)))=Q7 (32::(dtL++R)).length ⟨dtL++R,[Y3],[⟨0,[],0⟩],[],[]⟩by kernel_rfl]
     exact a5R _ _ _ _ _ _
    ·rw[f6 h1]
     by_cases h2:q=2
     ·rw[g8 h2]
      rw[show L1 ([60,63,97,63,62]++dtL++R)=[60,63,97,63,62]++dtL++R by kernel_rfl]
      exact(show Q7 (([60,63,97,63,62]++dtL++R).length+1) (rd0 ([60,63,97,63,62]++dtL++R))=Q7 ([60,63,97,63,62]++dtL++R).length ⟨dtL++R,[Y3,⟨4,0,⟨#[]⟩,⟨#[97]⟩,⟨#[]⟩,⟨#[]⟩,[],[]⟩],[⟨0,[],0⟩],[],[]⟩by kernel_rfl).trans (a5R _ _ _ _ _ _)
     ·rw[f6 h2]
      rw[show L1 ([60,33,45,45,98,45,45,62,10]++dtL++R)=[60,33,45,45,98,45,45,62,10]++dtL++R by kernel_rfl]
      exact(show Q7 (([60,33,45,45,98,45,45,62,10]++dtL++R).length+1) (rd0 ([60,33,45,45,98,45,45,62,10]++dtL++R))=Q7 (33::45::45::98::45::45::62::10::(dtL++R)).length ⟨dtL++R,[Y3,⟨3,0,⟨#[]⟩,⟨#[]⟩,⟨#[]⟩,⟨#[98]⟩,[],[]⟩],[⟨0,[],0⟩],[],[]⟩by kernel_rfl).trans (a5R _ _ _ _ _ _)
  ·rfl
 unfold X4;rw[hd]
theorem a9L{w:World}{B:Nat}{v:Value}{l:List UInt8}(h:Own w B v l)(c:Nat)(ty:TypeId):(Builtin.append_ #[22,22] ty #[v,.slice none 0 c]).run Tryz.prog w=.ok v w:=by
 obtain⟨i0,hi,D0,D1,D2⟩:=info_parts a4B;rcases h with⟨rfl,rfl⟩|⟨g,cap,rfl,h1,h2,h3,h4,h5,h6⟩
 ·simp[Builtin.append_,run_underlying Tryz.underlying22,sizeOf,typeInfo,hi,Builtin.lenOf,Builtin.firstCells]
 ·simp[Builtin.append_,run_underlying Tryz.underlying22,sizeOf,typeInfo,hi,Builtin.lenOf,h3,Builtin.firstCells,storeCells]
theorem b7y{w:World}{ops:Array Oper}{rest:List Oper}{o:Oper}{a:Act}{Q:Exit->Act->World->Prop}(D1:o.guard=none)(s x:Operand)
 (ho:o.op=.call { callee:=.builtin .append,args:=#[s,x],argTypes:=#[22,22] }) (B:Nat) (l:List UInt8) (v:Value) (hs:a.eval s=v) (D0:Own w B v l) (hB:B<=w.heap.size)
 (Bz:Nat) (A:Option Addr) (m c:Nat) (y:List UInt8) (hx:a.eval x=.slice A m c) (hm:y.length=m) (hy:Q3 w Bz A (P6 y)) (hn:l.length+m<=1000000000000)
 (h:∀v' w',Own w' B v' (l++y)->Below B w w'->wpList Tryz.prog ops Q rest (a.put o.dst v') w'):wpList Tryz.prog ops Q (o::rest) a w:=by
 cases A with
 |some ad =>
  refine a4E D1 s x ho B l v hs D0 hB ad m c y hx hm (fun j u hu => ?_) hn h;obtain⟨g,o',e,_,hc⟩:=hy (fun e=>by rw[e]at hu;simp at hu)
  cases e;obtain⟨hj,rfl⟩:=z8.1 hu;rw[a18];exact hc j hj
 |none =>
  have D2:y=[]:=by
   cases y with
   |nil=>rfl
   |cons z r=>obtain⟨g,o',e,_⟩:=hy (by simp[P6]);cases e
  subst D2;simp only[t7]at hm;subst hm;refine wpList_plain D1 fun K hK => ?_;have hr:=a9L D0 c o.type;unfold Oper.wp execOp;simp only[ho,resolve,invoke,builtin,Sem.run_bind,Sem.run_pure,Result.andThen_ok,List.map_toArray,List.map_cons,List.map_nil,hs,hx,hr];exact hK _ _ (h v w (by simpa using D0) (b8 _ _))
theorem a7Q(l:List UInt8)(v:Value)(w:World)(hB : 8<=w.heap.size)(hW:Wd w)(hn:l.length<=40000)(B:Nat)(ho:Own w B v l) :
 Calls Tryz.prog 12 #[v] w fun e w'=>b1G (X4 l) w.heap.size e w'/\Below w.heap.size w w':=by
 obtain⟨A,c,rfl,h1,h2,h3⟩:=ho.lies;exact a32 _ c l w hB hW h3 h1 h2 hn
theorem b4a(HA:b1I)(A:Option Addr)(c:Nat)(bs:List UInt8)(x:Int)(wx:(Lit.int .u8 x).wf=true)(w:World)(hB : 8<=w.heap.size)(hW:Wd w)(hl:Q3 w w.heap.size A (P6 bs))(hc:bs.length<=c)(G5:c<=9223372036854775807) :
 Calls Tryz.prog 5 #[.slice A bs.length c,.int .u8 x] w fun e w'=>e=.returned (.bool true)/\Below w.heap.size w w':=by
 have D3:Hid (∀w1,Below w.heap.size w w1->Calls Tryz.prog 11 #[] w1 fun e w'=>e=.returned (.bool true)/\Below w1.heap.size w1 w'):=fun w1 hb=>HA w1 (d8 hB hb.size) (hW.low hB hb);obtain⟨J5,J6⟩:=a90 wx;obtain⟨m,rfl⟩ : ∃m:Nat,x=(m:Int):=⟨x.toNat,by omega⟩
 clear wx;obtain⟨k,hk⟩ : ∃k,bs.length=k:=⟨_,rfl⟩;by_cases hn:bs.length<=300
 ·have h0:¬(300:Int)<(k:Int):=by omega
  have J7:=f8 h0
  have HP:Hid (∀q B' w1 v,Below w.heap.size w w1->Own w1 B' v (a4S q++dtL++bs)->Calls Tryz.prog 12 #[v] w1 fun e w'=>e=.returned (.tuple #[.pointer none,.int .i64 2])/\Below w1.heap.size w1 w'):=fun q B' w1 v hb ho=>by
   have D9:(a4S q++dtL++bs).length<=40000:=by
    have:=a8U q;rw[e8,e8];have:dtL.length=12:=rfl;omega
   refine(a7Q _ v w1 (d8 hB hb.size) (hW.low hB hb) D9 _ ho).mono fun e w' ⟨h1,h2⟩=>⟨?_,h2⟩;rw[b7Y]at h1;exact h1
  have G6:=a8 hl;have HK:=a8 hk;rw[hk];clear hl hW hB hk hc;go_enter Tryz.func5,Tryz.ntmps5
  go_wp2_with fail
  refine(D3.out _ (b8 _ _)).mono ?_;rintro e w1⟨rfl,D2⟩;have D0:=a8 D2;clear D2;obtain⟨P,hP⟩ : ∃P,ba (a4S (m%4))=P:=⟨_,rfl⟩
  have E5:∀W:World,(W.alloc (.cells #[.string ⟨#[]⟩,.string ⟨#[32]⟩,.string ⟨#[60,63,97,63,62]⟩,.string ⟨#[60,33,45,45,98,45,45,62,10]⟩] 9)).cell? ⟨W.heap.size,m%4,none⟩=some (.string P):=fun W=>by
   rw[d9 _ _ _ _ _ _ (g9 W _),<-hP];have hq:m%4=0∨m%4=1∨m%4=2∨m%4=3:=by omega
   rcases hq with h|h|h|h<;>rw[h]<;>rfl
  have J8:P.size<=9:=by
   rw[<-hP,I9];exact a8U _
  obtain⟨X,hX⟩ : ∃X,P++⟨#[60,33,68,79,67,84,89,80,69,32,97,62]⟩=X:=⟨_,rfl⟩;have E0:X.data.toList=a4S (m%4)++dtL:=by rw[<-hX,<-hP];simp[ba,dtL]
  have J9:X.size<=21:=by rw[j9,E0,e8];have:=a8U (m%4);have:dtL.length=12:=rfl;omega
  obtain⟨cpW,W,L0,_,_,E1,_,_,D1⟩:=a0M X (by omega) (w1.alloc (.cells #[.string ⟨#[]⟩,.string ⟨#[32]⟩,.string ⟨#[60,63,97,63,62]⟩,.string ⟨#[60,33,45,45,98,45,45,62,10]⟩] 9))
  rw[E0,World.size_alloc]at D1;have E2:=(b8 w1.heap.size w1).alloc (c9 _) (.cells #[.string ⟨#[]⟩,.string ⟨#[32]⟩,.string ⟨#[60,63,97,63,62]⟩,.string ⟨#[60,33,45,45,98,45,45,62,10]⟩] 9);have E6:=a8 ((D0.out.trans (E2.mono D0.out.size)).trans (E1.mono (d8 D0.out.size E2.size)));have G7:=a8 D1;have G8:=a8 (G6.out.below E6.out);have E7:=E1.size;rw[World.size_alloc]at E7;clear D1 E1 E2 hP;have G9:(a4S (m%4)++dtL).length+k<=1000000000000:=by rw[<-E0,<-j9];omega
  go_wp2_with (at_builtin;refine b7y rfl (.tmp 22) (.tmp 23) rfl _ (a4S (m%4)++dtL) _ rfl G7.out E7 _ A k c bs rfl HK.out G8.out G9 ?_;intro v4 w4 E8 G0)
  have E3:w.heap.size<=w1.heap.size+1:=by have:=D0.out.size;omega
  have E4:=a8 (E6.out.trans (G0.mono E3));have J1:=a8 (HP.out _ _ w4 v4 E4.out E8);clear E8 G0
  go_wp2_with fail
  refine J1.out.mono ?_;rintro e w5⟨rfl,G1⟩;have J2:=a8 (E4.out.trans (G1.mono E4.out.size));clear G1;go_wp2;go_ret;exact⟨rfl,J2.out⟩
 ·have h0:(300:Int)<(k:Int):=by omega
  rw[hk];clear hl hc G5 hk hn hW hB;go_enter Tryz.func5,Tryz.ntmps5
  go_wp2_with fail
  refine(D3.out _ (b8 _ _)).mono ?_;rintro e w1⟨rfl,D2⟩;have D0:=a8 D2;have J3:=a8 (D3.out w1 D2);clear D2
  go_wp2_with fail
  refine J3.out.mono ?_;rintro e w2⟨rfl,G4⟩;have J4:=a8 (D0.out.trans (G4.mono D0.out.size));clear G4;go_wp2;go_ret;exact⟨rfl,J4.out⟩
end Go.Proofs.YteinegfbpfhflaaGreatDoor
