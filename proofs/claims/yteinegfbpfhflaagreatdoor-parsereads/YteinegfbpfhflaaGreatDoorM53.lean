/-
  apostilleref08.Parse. Conditions: an element is read as it is to be; at most 40,000 bytes.
  apostilleref08: element, and Parse, with no premise. Conditions: at most 40,000 bytes.
  What parse.Parse answers, and the document's own reader: the same. Conditions: at most 40,000 bytes.
  apostillelaw08.ParseReads. Conditions: the tables lie as they are laid; awake answers as it is to.
-/
import Derived.Test.YteinegfbpfhflaaGreatDoorM52
import Derived.Test.YteinegfbpfhflaaGreatDoorQEl2
import Derived.Test.YteinegfbpfhflaaGreatDoorM37
import Derived.Test.YteinegfbpfhflaaGreatDoorM56
import Derived.Test.YteinegfbpfhflaaGreatDoorROne
namespace Go.Proofs.YteinegfbpfhflaaGreatDoor
open Go.RowKit
set_option linter.unusedVariables false
set_option maxRecDepth 100000
set_option maxHeartbeats 64000000
def Ho(B:Nat)(w:World)(rb:Nat)(S:ByteArray)(s:Rf)(wx:World):Prop:=(∃vn ys,eF wx B rb S s vn ys)/\Below B w wx
theorem Ho.add{B rb:Nat}{S:ByteArray}{s:Rf}{vn:Value}{w w1 w2:World}(h:Below B w w1)(ha:eP B rb S s vn w1 w2):Ho B w rb S s w2:=by
 obtain⟨⟨v,ys,h1,_⟩,h2⟩:=ha;exact⟨⟨v,ys,h1⟩,h.trans h2⟩
theorem xp(HE:∀f,D8 f)(A:Option Addr)(c:Nat)(bs:List UInt8)(w:World)(hl:en w w.heap.size A (ec bs))(hc:bs.length<=c)(hcm:c<=9223372036854775807)(hn:bs.length<=40000) :
 Calls Tryz.prog 13 #[.slice A bs.length c] w fun e w'=>qM bs e w'/\Below w.heap.size w w':=by
 have HTX:Hid (Calls Tryz.prog 31 #[.slice A bs.length c] w fun e w'=>e=.returned (.bool (iZ bs))/\Below w.heap.size w w'):=(jX A c bs w hl hc hcm (by omega)).mono fun e w' ⟨h1,h2⟩=>⟨i4 h1,h2⟩
 have h0:¬(65536:Int)<(bs.length:Int):=by omega
 cases ht:iZ bs with
 |false =>
  rw[ht]at HTX;have hR:q8 bs=none:=by unfold q8;rw[am (by rw[ht];decide)]
  have HANS:Hid (∀w',qM bs (.returned (.tuple #[.slice none 0 0,.int .i64 2])) w'):=fun w'=>by unfold qM;rw[hR]
  clear hl ht hR;obtain⟨k,hk⟩ : ∃k,bs.length=k:=⟨_,rfl⟩;rw[hk]at HTX h0 ⊢;clear hk hc hn;go_enter Tryz.func13,Tryz.ntmps13
  go_wp2_with fail
  refine HTX.out.mono ?_;rintro e w1⟨rfl,hb1⟩;have HB1:=aa hb1;clear hb1;go_wp2
  go_ret2
  exact⟨HANS.out _,HB1.out⟩
 |true =>
  rw[ht]at HTX;have hll:=kb bs;have hR:q8 bs=lc (bJ bs):=by unfold q8;rw[av ht]
  have HCV:Hid (∀w1,Below w.heap.size w w1->(convert 22 9 (.slice A bs.length c)).run Tryz.prog w1=.ok (.string (ba bs)) w1):=fun w1 h=>cF c (hl.below h)
  have HLN:Hid (∀w1,Calls Tryz.prog 32 #[.string (ba bs)] w1 fun e w'=>e=.returned (.string (ba (bJ bs)))/\Below w1.heap.size w1 w'):=fun w1=>by
   have:=sH (ba bs) (by rw[cV];omega) w1
   rw[bp]at this;exact this
  have HANS:Hid (∀e w',(match lc (bJ bs)with
   |none=>e=.returned (.tuple #[.slice none 0 0,.int .i64 2])
   |some l=>if eI l=0 then ∃v,eD w' w'.heap.size v l/\e=.returned (.tuple #[v,.int .i64 0])else e=.returned (.tuple #[.slice none 0 0,.int .i64 (eI l)]))->qM bs e w'):=fun e w' h=>by
   unfold qM;rw[hR];exact h
  obtain⟨L,hL⟩ : ∃L,bJ bs=L:=⟨_,rfl⟩;rw[hL]at HLN HANS hll;have hLn:L.length<=40000:=by omega
  obtain⟨Z,hZ⟩ : ∃Z,ba bs=Z:=⟨_,rfl⟩;rw[hZ]at HLN HCV;obtain⟨k,hk⟩ : ∃k,bs.length=k:=⟨_,rfl⟩;rw[hk]at HTX HCV h0 ⊢;obtain⟨S,hS⟩ : ∃S,ba L=S:=⟨_,rfl⟩;rw[hS]at HLN;have hSl:S.data.toList=L:=by rw[<-hS];exact bp L
  have hSz:S.size=L.length:=by rw[<-hS];exact cV L
  have HSL:=aa hSl;have hSz2:S.size<=100000:=by omega
  clear hl ht hR hL hk hc hn hS hZ hll hSl;obtain⟨kA1,kA2,kA3⟩:=Jo (s:=L) (by omega)
  obtain⟨kB1,kB2,kB3⟩:=Jn (s:=L) (by omega)
  obtain⟨kC1,kC2,kC3⟩:=Jm (s:=L) (by omega)
  have HKA:=aa kA1;have HKB:=aa kB1;have HKC:=aa kC1;have hL100:L.length<=100000:=by omega
  have hdn:(gZ (fR L)).ns.length+(gZ (fR L)).rest.length<=800000:=by
   rw[tM];have h1:=(ma (fR L)).len;have h2:(fR L).rest.length=L.length:=rfl
   show 1+_<=_
   omega
  have hdl:(gZ (fR L)).rest.length<L.length+1:=by
   have h1:=(ma (fR L)).len;have h2:(fR L).rest.length=L.length:=rfl;omega
  have HDEC:Hid (∀w' rb v,eR w' rb S v (fR L) 0->Calls Tryz.prog 33 #[.pointer (some ⟨rb,0,none⟩)] w' fun e w''=>e=.returned (.tuple #[])/\dA rb S v (gZ (fR L)) w' w''):=fun w' rb v hm=>by
   cases hd:it (fR L).rest with
   |true=>exact Fx S rb v (fR L) w' hm (by omega) hd
   |false =>
    have e:gZ (fR L)=fR L:=by unfold gZ;rw[am (by rw[hd];decide)]
    rw[e];exact Dt S rb v (fR L) w' hm (by omega) hd
  have HASA:Hid (∀B w' rb v ys,eF w' B rb S (gZ (fR L)) v ys->Calls Tryz.prog 34 #[.pointer (some ⟨rb,0,none⟩)] w' fun e w''=>e=.returned (.tuple #[])/\eP B rb S (ik L) v w' w''):=fun B w' rb v ys hm=>r8 S B rb (gZ (fR L)) v ys (L.length+1) w' hm (by omega) hdl hdn
  have HELE:Hid (∀B w' rb v ys,eF w' B rb S (ik L) v ys->Calls Tryz.prog 35 #[.pointer (some ⟨rb,0,none⟩),.int .i64 0] w' fun e w''=>e=.returned (.tuple #[])/\eP B rb S (dj (L.length+1) 0 (ik L)) v w' w''):=fun B w' rb v ys hm=>HE (L.length+1) S B rb (ik L) v ys 0 w' hm hSz2 (by omega) (by omega) kA1 (Int.le_refl _) (by have:=bO.2 kA1.ne;omega) (by omega)
  have HASB:Hid (∀B w' rb v ys,eF w' B rb S (fB L) v ys->Calls Tryz.prog 34 #[.pointer (some ⟨rb,0,none⟩)] w' fun e w''=>e=.returned (.tuple #[])/\eP B rb S (iB (L.length+1) (fB L)) v w' w''):=fun B w' rb v ys hm=>r8 S B rb (fB L) v ys (L.length+1) w' hm (by omega) (by omega) (by unfold ey at kB2;omega)
  have HCHK:Hid (∀B w' rb v ys,eF w' B rb S (gx L) v ys->Calls Tryz.prog 36 #[v] w' fun e w''=>e=.returned (.int .i64 (eI (gx L).ns))/\Below w'.heap.size w' w''):=fun B w' rb v ys hm=>Bo (gx L).ns v w' (hm.nsAt (fun e=>by
   have h1:=hm.ns;rw[e]at h1;exact kC1.ne h1.symm)) (by unfold ey at kC2;omega) kC1.sm
  clear kA1 kB1 kC1 kA2 kB2 kC2 kA3 kB3 kC3 hdn hdl;go_enter Tryz.func13,Tryz.ntmps13
  go_wp2_with fail
  refine HTX.out.mono ?_;rintro e w1⟨rfl,hb1⟩;have HB1:=aa hb1;have hcv:=HCV.out w1 hb1;clear hb1
  go_wp2_with fail
  refine(HLN.out w1).mono ?_;rintro e w2⟨rfl,hb2⟩;have HB2:=aa (HB1.out.trans (hb2.mono HB1.out.size));clear hb2 hcv
  go_upto_region 6 with fail
  obtain⟨gb,hgb⟩ : ∃gb,w2.heap.size=gb:=⟨_,rfl⟩;obtain⟨w3,hw3⟩ : ∃w3,(w2.alloc (Obj.cells #[.int .i64 0,.int .i64 (-1),.string ⟨#[]⟩,.string ⟨#[]⟩,.string ⟨#[]⟩,.string ⟨#[]⟩,.slice none 0 0,.slice none 0 0] 42)).alloc (Obj.cells #[.string S,.int .i64 0,.slice (some ⟨gb,0,none⟩) 1 1,.bool false] 64)=w3:=⟨_,rfl⟩;have hB0:w.heap.size<=gb:=by rw[<-hgb];exact HB2.out.size
  have hb3:Below gb w2 w3:=by rw[<-hw3,<-hgb];exact(((ae _ _).alloc (af _) _).alloc (by simp) _)
  have hg3:w3.heap[gb]? = some (.cells #[.int .i64 0,.int .i64 (-1),.string ⟨#[]⟩,.string ⟨#[]⟩,.string ⟨#[]⟩,.string ⟨#[]⟩,.slice none 0 0,.slice none 0 0] 42 (0,0)):=by
   obtain⟨wy,hwy⟩ : ∃wy,w2.alloc (Obj.cells #[.int .i64 0,.int .i64 (-1),.string ⟨#[]⟩,.string ⟨#[]⟩,.string ⟨#[]⟩,.string ⟨#[]⟩,.slice none 0 0,.slice none 0 0] 42)=wy:=⟨_,rfl⟩;have h1:wy.heap[gb]? = some (.cells #[.int .i64 0,.int .i64 (-1),.string ⟨#[]⟩,.string ⟨#[]⟩,.string ⟨#[]⟩,.string ⟨#[]⟩,.slice none 0 0,.slice none 0 0] 42 (0,0)):=by rw[<-hwy,<-hgb];exact ar w2 _
   rw[<-hw3,hwy,((ae wy.heap.size wy).alloc (af _) _).block gb (au h1)];exact h1
  have hr3:w3.heap[gb+1]? = some (.cells #[.string S,.int .i64 0,.slice (some ⟨gb,0,none⟩) 1 1,.bool false] 64 (0,0)):=by
   obtain⟨wy,hwy⟩ : ∃wy,w2.alloc (Obj.cells #[.int .i64 0,.int .i64 (-1),.string ⟨#[]⟩,.string ⟨#[]⟩,.string ⟨#[]⟩,.string ⟨#[]⟩,.slice none 0 0,.slice none 0 0] 42)=wy:=⟨_,rfl⟩;have h1:wy.heap.size=gb+1:=by rw[<-hwy,<-hgb];simp
   rw[<-hw3,hwy,<-h1];exact ar wy _
  have hrc3:eR w3 (gb+1) S (.slice (some ⟨gb,0,none⟩) 1 1) (fR L) 0:=⟨aM _,by rw[HSL.out];rfl,hr3⟩
  have hm3:eF w3 w.heap.size (gb+1) S (fR L) (.slice (some ⟨gb,0,none⟩) 1 1) [⟨cM,.slice none 0 0,.slice none 0 0⟩] :=
   ⟨by omega,⟨0,hrc3⟩,rfl,Ct hg3 hB0,fun y hy=>by rw[aW.1 hy];exact⟨aQ _ _ _ _,aQ _ _ _ _⟩⟩
  have HM3:=aa hm3;have HD3:=aa (HDEC.out w3 (gb+1) _ hrc3);have HB3:=aa (HB2.out.trans (hb3.mono hB0));rw[hgb,hw3];obtain⟨rb,hrb⟩ : ∃rb,gb+1=rb:=⟨_,rfl⟩;obtain⟨v0,hv0⟩ : ∃v0,Value.slice (some ⟨gb,0,none⟩) 1 1=v0:=⟨_,rfl⟩;rw[hrb,hv0]at HM3 HD3;rw[hrb];have hlo:w.heap.size<=rb:=by omega
  clear hg3 hr3 hrc3 hm3 hw3 hgb hb3 hrb hv0 hB0
  go_wp2_with fail
  refine HD3.out.mono ?_;rintro e w4⟨rfl,hr4⟩;have h4:=HM3.out.rst hr4 (tM _);have HB4:=aa (HB3.out.trans (hr4.below hlo HB3.out.size));have HC4:=aa (HASA.out _ w4 rb _ _ h4);clear hr4 h4 HDEC HASA HM3 HD3
  go_wp2_with fail
  refine HC4.out.mono ?_;rintro e w5⟨rfl,ha5⟩;have HA5:=aa (Ho.add HB4.out ha5);clear ha5;obtain⟨⟨v5,y5,h5⟩,hb5⟩:=HA5.out;obtain⟨k5,hk5⟩:=h5.rc;have c3:=hk5.cells.2.2.2;have cl:=hk5.lt;have HEL:=aa (HELE.out _ w5 rb v5 y5 h5);have HB5:=aa hb5;have H5:=aa h5;clear h5 hb5 hk5;obtain⟨bA,hbA⟩ : ∃bA,(ik L).bad=bA:=⟨_,rfl⟩;rw[hbA]at c3;have HBA:=aa hbA;clear hbA
  go_upto_if 27 with fail
  go_cut [] (fun wx=>Ho w.heap.size w rb S (fB L) wx)
  case first =>
   clear HELE HASB HCHK c3;have hb:=HBA.out;cases bA with
   |true =>
    have e:fB L=ik L:=by unfold fB;rw[av hb]
    have HE2:=aa e;clear e;go_wp2
    go_meet
    rw[HE2.out];exact HA5.out
   |false =>
    have e:fB L=dj (L.length+1) 0 (ik L):=by unfold fB;rw[am (by rw[hb];decide)]
    have HE2:=aa e;clear e
    go_wp2_with fail
    refine HEL.out.mono ?_;rintro e w6⟨rfl,ha6⟩;have HA6:=aa (Ho.add HB5.out ha6);clear ha6
    go_wp2_with fail
    go_meet
    rw[HE2.out];exact HA6.out
  case rest =>
   obtain⟨w6,hw6⟩ : ∃w6:World,w6=wc:=⟨_,rfl⟩;subst hw6;have HA6:=aa hcut;clear hcut HA5 HELE HEL HB5 H5 c3 cl v5 y5 k5 HBA;obtain⟨⟨v5,y5,h5⟩,hb5⟩:=HA6.out;obtain⟨k5,hk5⟩:=h5.rc;have c3:=hk5.cells.2.2.2;have cl:=hk5.lt;have HEL:=aa (HASB.out _ w6 rb v5 y5 h5);have HB5:=aa hb5;clear h5 hb5 hk5;obtain⟨bB,hbB⟩ : ∃bB,(fB L).bad=bB:=⟨_,rfl⟩;rw[hbB]at c3;have HBB:=aa hbB;clear hbB
   go_upto_if 34 with fail
   go_cut [] (fun wx=>Ho w.heap.size w rb S (gx L) wx)
   case first =>
    clear HASB HCHK c3;have hb:=HBB.out;cases bB with
    |true =>
     have e:gx L=fB L:=by unfold gx;rw[av hb]
     have HE2:=aa e;clear e;go_wp2
     go_meet
     rw[HE2.out];exact HA6.out
    |false =>
     have e:gx L=iB (L.length+1) (fB L):=by unfold gx;rw[am (by rw[hb];decide)]
     have HE2:=aa e;clear e
     go_wp2_with fail
     refine HEL.out.mono ?_;rintro e w7⟨rfl,ha6⟩;have HA7:=aa (Ho.add HB5.out ha6);clear ha6
     go_wp2_with fail
     go_meet
     rw[HE2.out];exact HA7.out
   case rest =>
    obtain⟨w7,hw7⟩ : ∃w7:World,w7=wc:=⟨_,rfl⟩;subst hw7;clear HEL HB5 c3 cl v5 y5 k5 HBB;obtain⟨⟨v7,y7,h7⟩,hb7⟩:=hcut;obtain⟨k7,hk7⟩:=h7.rc;obtain⟨c0,c1,c2,c3⟩:=hk7.cells;have cl:=hk7.lt;have hkl:=hk7.le;have hrl:=hk7.len;have HCK:=aa (fun m=>HCHK.out _ (w7.drewN m) rb v7 y7 (h7.below (ay (ae _ _) m)));have H7:=aa h7;have HB7:=aa hb7;have HK7:=aa hk7;clear h7 hb7 hk7 HASB HCHK HA6;generalize hsC:gx L=sC at *;have hrf:lc L=if sC.bad=true∨sC.rest≠[]then none else some sC.ns:=by unfold lc;rw[hsC]
    rw[hrf]at HANS;clear hrf hsC
    go_upto_region 12 with fail
    cases hb:sC.bad with
    |true =>
     rw[hb]at c3;rw[av (.inl hb)]at HANS;clear hb
     go_quiet (fail)
     go_wp2
     go_ret2
     exact⟨HANS.out _ _ rfl,ay HB7.out _⟩
    |false =>
     rw[hb]at c3;by_cases hr:sC.rest=[]
     ·have hk7:k7=S.size:=by rw[hr,bb]at hrl;omega
      subst hk7;have hd:decide ((S.size:Int)<(S.size:Int))=false:=ap (by omega)
      rw[am (by rw[hb,hr];simp)]at HANS
      have hne:y7≠[]:=fun e=>by
       have h1:=H7.out.ns;rw[e]at h1;exact HKC.out.ne h1.symm
      have HNE:=aa hne;clear hb hr hne hrl hkl
      go_quiet (fail)
      go_wp2_with fail
      refine(HCK.out _).mono ?_;rintro e w8⟨rfl,hb8⟩;have hm8:=(H7.out.below (ay (ae _ _) nq)).below hb8;have c2':w8.cell? ⟨rb,2,none⟩=some v7:=(hb8.cell (p:=⟨rb,2,none⟩) cl).trans c2;have HNS:=aa (hm8.nsAt HNE.out);have HB8:=aa ((ay HB7.out nq).trans (hb8.mono (ay HB7.out nq).size));clear hb8 hm8 c0 c1 c2 c3 HCK
      have HOK:Hid (eI sC.ns=0->∀w' v,eD w' w'.heap.size v sC.ns->qM bs (.returned (.tuple #[v,.int .i64 0])) w'):=fun h w' v hv=>HANS.out _ _ (by
       show(if eI sC.ns=0 then _ else _)
       rw[av h];exact⟨v,hv,rfl⟩)
      have HNO:Hid (eI sC.ns≠0->∀w',qM bs (.returned (.tuple #[.slice none 0 0,.int .i64 (eI sC.ns)])) w'):=fun h w'=>HANS.out _ _ (by
       show(if eI sC.ns=0 then _ else _)
       rw[am h])
      clear HANS;generalize eI sC.ns=E at *;by_cases hz:E=0
      ·subst hz
       go_wp2
       go_ret2
       exact⟨HOK.out (by first|trivial|rfl) _ _ HNS.out,HB8.out⟩
      ·have hzb:(E != 0)=true:=by simpa using hz
       go_wp2
       go_ret2
       exact⟨HNO.out hz _,HB8.out⟩
     ·rw[av (.inr hr)]at HANS
      have hlt:(k7:Int)<(S.size:Int):=by
       have:=bO.2 hr;omega
      have hd:decide ((k7:Int)<(S.size:Int))=true:=ax hlt;clear hb hr hrl hkl
      go_quiet (fail)
      go_wp2
      go_ret2
      exact⟨HANS.out _ _ rfl,ay HB7.out _⟩
theorem zb:∀f,D8 f
 |0=>fun S B rb s vn ys n w h hS hf h1=>absurd h1 (by omega)
 |f+1=>tE (zb f)
theorem xq(A:Option Addr)(c:Nat)(bs:List UInt8)(w:World)(hl:en w w.heap.size A (ec bs))(hc:bs.length<=c)(hcm:c<=9223372036854775807)(hn:bs.length<=40000) :
 Calls Tryz.prog 13 #[.slice A bs.length c] w fun e w'=>qM bs e w'/\Below w.heap.size w w':=xp zb A c bs w hl hc hcm hn
def Hm(D:Int ⊕ List Nd)(e:Ending)(w':World):Prop:=match D with
 | .inl E=>e=.returned (.tuple #[.slice none 0 0,.int .i64 E])
 | .inr l => ∃v,eD w' w'.heap.size v l/\e=.returned (.tuple #[v,.int .i64 0])
theorem Kw{bs:List UInt8}(h:∀l,qh dG bs=some l->db l=false):lG bs=.inl 2:=by
 unfold lG
 split
 ·rfl
 ·next l hl=>rw[h l hl];rfl
theorem Gw{bs:List UInt8}{e:Ending}{w':World}(hn:bs.length<=40000)(h:qM bs e w'):Hm (lG bs) e w':=by
 unfold qM q8 at h;unfold lG qh;cases ht:iZ bs with
 |false =>
  rw[ht]at h;rw[am (by decide)]
  rw[am (by decide)]at h
  exact h
 |true =>
  rw[ht]at h;rw[av rfl];rw[av rfl]at h;rcases uI (bJ bs) (vl bs)with⟨l,h1,h2⟩|⟨h1,h2⟩
  ·rw[h1]at h
   have h2':fC ((dG (bJ bs)).length+1) (oa (dG (bJ bs)))=some l:=h2;rw[h2'];have hsm:∀x∈l,Sm x:=tI hn (by unfold qh;rw[av ht];exact h2')
   have hfe:=vz hsm;dsimp only at h ⊢;unfold eI at h;rw[hfe]at h;cases hf:db l with
   |false=>rw[hf]at h;exact h
   |true =>
    rw[hf]at h;cases hw:cX l with
    |false=>rw[hw]at h;exact h
    |true=>rw[hw]at h;exact h
  ·have hE:lG bs=.inl 2:=Kw fun l hl=>by
    unfold qh at hl;rw[av ht]at hl;exact h2 l hl
   unfold lG qh at hE;rw[av ht]at hE;rw[hE];cases hx:lc (bJ bs)with
   |none=>rw[hx]at h;exact h
   |some l =>
    rw[hx]at h;have hf:=h1 l hx;have hk:=Jm (s:=bJ bs) (by have:=kb bs;omega)
    have hl:l=(gx (bJ bs)).ns:=by
     unfold lc at hx
     split at hx
     ·cases hx
     ·exact(Option.some.inj hx).symm
    have hfe:=vz (l:=l) (by rw[hl];exact hk.1.sm)
    dsimp only at h;have hc:eI l=2:=by unfold eI;rw[hfe,hf];rfl
    rw[hc,am (by decide)]at h
    exact h
theorem CA(A:Option Addr)(c:Nat)(bs:List UInt8)(w:World)(hl:en w w.heap.size A (ec bs))(hc:bs.length<=c)(hcm:c<=9223372036854775807)(hn:bs.length<=40000) :
 Calls Tryz.prog 13 #[.slice A bs.length c] w fun e w'=>Hm (lG bs) e w'/\Below w.heap.size w w':=(xq A c bs w hl hc hcm hn).mono fun e w' ⟨h1,h2⟩=>⟨Gw hn h1,h2⟩
theorem Ck(A1 A2:Option Addr)(c1 c2:Nat)(w:World):Calls Tryz.prog 14 #[.slice A1 0 c1,.slice A2 0 c2] w fun e w'=>e=.returned (.bool true)/\Below w.heap.size w w':=by
 go_enter Tryz.func14,Tryz.ntmps14;go_wp2
 go_loopw [13] (fun i wx=>i=.int .i64 0/\wx=w) (fun i _=>0)
 case atStart=>exact⟨rfl,rfl⟩
 case round =>
  obtain⟨rfl,rfl⟩:=hrel;go_wp2;go_ret;exact⟨rfl,ae _ _⟩
theorem wN{l:List Nd}(h:cX l=true):l.length<=4000:=by
 unfold cX at h;exact(of_decide_eq_true h).1
theorem zS(HA:Gd)(A:Option Addr)(c:Nat)(bs:List UInt8)(w:World)(hB : 8<=w.heap.size)(hW:Wd w)(hl:en w w.heap.size A (ec bs))(hc:bs.length<=c)(hcm:c<=9223372036854775807) :
 Calls Tryz.prog 3 #[.slice A bs.length c] w fun e w'=>e=.returned (.bool true)/\Below w.heap.size w w':=by
 have HAW:Hid (∀w1,Below w.heap.size w w1->Calls Tryz.prog 11 #[] w1 fun e w'=>e=.returned (.bool true)/\Below w1.heap.size w1 w'):=fun w1 hb=>HA w1 (ag hB hb.size) (hW.low hB hb);by_cases hn:bs.length<=1500
 ·have h0:¬(1500:Int)<(bs.length:Int):=by omega
  have hd0:=ap h0;have HP:Hid (∀w1,Below w.heap.size w w1->Calls Tryz.prog 12 #[.slice A bs.length c] w1 fun e w'=>Hn (lG bs) w1.heap.size e w'/\Below w1.heap.size w1 w'):=fun w1 hb=>yz A c bs w1 (ag hB hb.size) (hW.low hB hb) ((hl.below hb).mono hb.size) hc hcm (by omega)
  have HF:Hid (∀w1,Below w.heap.size w w1->Calls Tryz.prog 13 #[.slice A bs.length c] w1 fun e w'=>Hm (lG bs) e w'/\Below w1.heap.size w1 w'):=fun w1 hb=>CA A c bs w1 ((hl.below hb).mono hb.size) hc hcm (by omega)
  cases hD:lG bs with
  |inl E =>
   rw[hD]at HP HF;have hE0:(E != 0)=true:=by rcases vV hD with rfl|rfl<;>rfl
   have hE1:(E==0)=false:=by rcases vV hD with rfl|rfl<;>rfl
   obtain⟨k,hk⟩ : ∃k,bs.length=k:=⟨_,rfl⟩;rw[hk]at HP HF hd0 h0 ⊢;clear hl hc hcm hk hn hD hW hB;go_enter Tryz.func3,Tryz.ntmps3
   go_wp2_with fail
   refine(HAW.out _ (ae _ _)).mono ?_;rintro e w1⟨rfl,hb1⟩;have HB1:=aa hb1;have HC1:=aa (HP.out w1 hb1);clear hb1
   go_wp2_with fail
   refine HC1.out.mono ?_;rintro e w2⟨he,hb2⟩;have he':e=.returned (.tuple #[.pointer none,.int .i64 E]):=he;subst he';have HB2:=aa (HB1.out.trans (hb2.mono HB1.out.size));have HC2:=aa (HF.out w2 HB2.out);clear hb2 he
   go_wp2_with fail
   refine HC2.out.mono ?_;rintro e w3⟨he,hb3⟩;have he':e=.returned (.tuple #[.slice none 0 0,.int .i64 E]):=he;subst he';have HB3:=aa (HB2.out.trans (hb3.mono HB2.out.size));clear hb3 he
   go_wp2_with fail
   refine(Af _).mono ?_;rintro e w4⟨A4,c4,rfl,hb4⟩;have HB4:=aa (HB3.out.trans (hb4.mono HB3.out.size));clear hb4
   go_wp2_with fail
   refine(Ck _ _ _ _ _).mono ?_;rintro e w5⟨rfl,hb5⟩;have HB5:=aa (HB4.out.trans (hb5.mono HB4.out.size));clear hb5;go_wp2;go_ret;exact⟨rfl,HB5.out⟩
  |inr l =>
   rw[hD]at HP HF;obtain⟨hd1,hd2,hd3⟩:=vU hD;have hsm:∀x∈l,Sm x:=tI (by omega) hd1
   have hfew:=wN hd3;have HSM:=aa hsm;obtain⟨k,hk⟩ : ∃k,bs.length=k:=⟨_,rfl⟩;rw[hk]at HP HF hd0 h0 ⊢;clear hl hc hcm hk hn hD hW hB hd1 hd2 hd3 hsm;go_enter Tryz.func3,Tryz.ntmps3
   go_wp2_with fail
   refine(HAW.out _ (ae _ _)).mono ?_;rintro e w1⟨rfl,hb1⟩;have HB1:=aa hb1;have HC1:=aa (HP.out w1 hb1);clear hb1
   go_wp2_with fail
   refine HC1.out.mono ?_;rintro e w2⟨⟨d,B',hB',rfl,hdoc⟩,hb2⟩;have HB2:=aa (HB1.out.trans (hb2.mono HB1.out.size));have HC2:=aa (HF.out w2 HB2.out);have HDOC:=aa hdoc;clear hb2 hB' hdoc
   go_wp2_with fail
   refine HC2.out.mono ?_;rintro e w3⟨⟨v,hv,rfl⟩,hb3⟩;have HB3:=aa (HB2.out.trans (hb3.mono HB2.out.size));have HD3:=aa (iy.later HDOC.out hb3);have HV3:=aa hv;have HC3:=aa (Ag w3 HD3.out (by omega) HSM.out)
   clear hb3 hv;obtain⟨Av,cv,rfl,_,_⟩:=HV3.out.slice
   go_wp2_with fail
   refine HC3.out.mono ?_;rintro e w4⟨v4,rfl,hown,hb4⟩;have HB4:=aa (HB3.out.trans (hb4.mono HB3.out.size));have HC4:=aa (Cl l v4 _ w4 (hown.at (by omega) HSM.out) ((HV3.out.below hb4).mono hb4.size))
   clear hb4 hown
   go_wp2_with fail
   refine HC4.out.mono ?_;rintro e w5⟨rfl,hb5⟩;have HB5:=aa (HB4.out.trans (hb5.mono HB4.out.size));clear hb5;go_wp2;go_ret;exact⟨rfl,HB5.out⟩
 ·have h0:(1500:Int)<(bs.length:Int):=by omega
  obtain⟨k,hk⟩ : ∃k,bs.length=k:=⟨_,rfl⟩;rw[hk]at h0 ⊢;clear hl hc hcm hk hn hW hB;go_enter Tryz.func3,Tryz.ntmps3
  go_wp2_with fail
  refine(HAW.out _ (ae _ _)).mono ?_;rintro e w1⟨rfl,hb1⟩;have HB1:=aa hb1;have HC1:=aa (HAW.out w1 hb1);clear hb1
  go_wp2_with fail
  refine HC1.out.mono ?_;rintro e w2⟨rfl,hb2⟩;have HB2:=aa (HB1.out.trans (hb2.mono HB1.out.size));clear hb2;go_wp2;go_ret;exact⟨rfl,HB2.out⟩
end Go.Proofs.YteinegfbpfhflaaGreatDoor
