import Derived.Test.YthcjikpabpgpfaaGreatZp0
import Derived.Test.YthcjikpabpgpfaaGreatZp10
import Derived.Test.YthcjikpabpgpfaaGreatZp9
import Derived.Test.YthcjikpabpgpfaaGreatZp12
import Derived.Deep.RegionHeld3
set_option linter.unusedSimpArgs false
set_option maxHeartbeats 16000000
set_option maxRecDepth 100000
namespace Go.Proofs.YthcjikpabpgpfaaGreat
open Go.RowKit Go.Maps Go.WideMaps
theorem fSumBytes_any (w:World) (A:Option Addr) (n c:Nat) (l:Nm) (hl:BytesIn w A n l):
  Calls Tryz.prog 78 #[.slice A n c] w fun e w'=>∃ B,e=.returned (.slice (some B) 4 4)∧w.heap.size≤B.block∧BytesIn w' (some B) 4 (le4 (sumN l))∧Below w.heap.size w w':=by
 have HL:=Lib.hid hl
 clear hl
 obtain ⟨s,hs⟩:∃ s,s=sumN l:=⟨_,rfl⟩
 have hs32:s < 4294967296:=by rw [hs];exact sumN_lt l
 obtain ⟨x0,h0⟩:∃ x,x=UInt8.ofNat (s % 256):=⟨_,rfl⟩
 obtain ⟨x1,h1⟩:∃ x,x=UInt8.ofNat (s / 256 % 256):=⟨_,rfl⟩
 obtain ⟨x2,h2⟩:∃ x,x=UInt8.ofNat (s / 65536 % 256):=⟨_,rfl⟩
 obtain ⟨x3,h3⟩:∃ x,x=UInt8.ofNat (s / 16777216 % 256):=⟨_,rfl⟩
 have z0:(s:Int) % 256=(x0.toNat:Int):=by rw [h0,ofNat_toNat (by omega)];omega
 have z1:(s:Int) / 256 % 256=(x1.toNat:Int):=by rw [h1,ofNat_toNat (by omega)];omega
 have z2:(s:Int) / 65536 % 256=(x2.toNat:Int):=by rw [h2,ofNat_toNat (by omega)];omega
 have z3:(s:Int) / 16777216=(x3.toNat:Int):=by rw [h3,ofNat_toNat (by omega)];omega
 have HP:Hid (le4 (sumN l)=[x0,x1,x2,x3]):=Lib.hid (by unfold le4;rw [← hs,← h0,← h1,← h2,← h3])
 have HS:=Lib.hid hs
 clear hs h0 h1 h2 h3
 go_enter Tryz.func78,Tryz.ntmps78
 go_wp2_with fail
 refine (sum_any w A n c l HL.out).mono ?_
 rintro e w1 ⟨rfl,hb⟩
 rw [← HS.out]
 have B1:=Lib.hid hb
 clear hb
 go_wp2
 go_ret
 refine ⟨_,rfl,B1.out.size,?_,B1.out.alloc B1.out.size _⟩
 rw [HP.out]
 exact const_in w1 [x0,x1,x2,x3] (0,0) (by unfold maxLen;simp)
theorem fPut_any (w:World) (A:Option Addr) (n c:Nat) (l:Nm) (hl:BytesIn w A n l) (hn:n≤1099511627776):
  Calls Tryz.prog 33 #[.slice A n c] w fun e w'=>∃ v,e=.returned v∧w'.ownsRow w.heap.size 5 1 v (putF l).length ((putF l).map byteV)∧Below w.heap.size w w':=by
 obtain ⟨i0,hi,hz0,hz1,hz2⟩:=info_parts byteInfo
 have HL:=Lib.hid hl
 have hln:l.length=n:=by have:=hl.2.1.len;simpa using this
 have HLN:=Lib.hid hln
 clear hl hln
 have hwn:IntKind.u64.wrap (n:Int)=(n:Int):=by rw [IntKind.wrap_u64];omega
 have hpl:=putL_len n (by omega)
 have h4:=le4_len (sumN l)
 obtain ⟨P,hP⟩:∃ P,P=putL n:=⟨_,rfl⟩
 obtain ⟨F,hF⟩:∃ F,F=le4 (sumN l):=⟨_,rfl⟩
 have HP:Hid (putF l=P++(F++l)):=Lib.hid (by rw [hP,hF,putF,HLN.out])
 have HF:=Lib.hid hF
 have HPE:=Lib.hid hP
 rw [← hF] at h4
 rw [← hP] at hpl
 have H4:=Lib.hid h4
 clear hP hF h4
 go_enter Tryz.func33,Tryz.ntmps33
 go_wp2_with fail
 refine (lPut_any w n (by omega)).mono ?_
 rintro e w2 ⟨v2,rfl,hO,hb⟩
 rw [← HPE.out] at hO
 obtain ⟨A2,c2,hv2⟩:=own_slice hO
 subst hv2
 have O2:=Lib.hid hO
 have L2:=Lib.hid (HL.out.below hb)
 have B2:=Lib.hid hb
 clear hb hO
 go_wp2_with fail
 refine (fSumBytes_any w2 A n c l L2.out).mono ?_
 rintro e w3 ⟨S,rfl,hS,hSB,hb⟩
 rw [← HF.out] at hSB
 have O3:=Lib.hid (ownsRow_block O2.out fun g hg=>hb.block g (O2.out.lt g hg).2)
 have L3:=Lib.hid (L2.out.below hb)
 have B3:=Lib.hid (below_then B2.out hb B2.out.size)
 have SB:=Lib.hid hSB
 clear hS hSB hb
 go_wp2_with (first
  | (at_builtin;refine wpList_append_src _ rfl (.tmp 8) (.tmp 10) 24 rfl w.heap.size 5 i0 (.int .u8 0) 1 Tryz.underlying24 hi hz0 hz1 hz2 rfl _ _ _ rfl O3.out _ 4 4 _ rfl SB.out.2.1 (u8_one F) (by unfold maxLen;omega) (by omega) B3.out.size ?_;intro v4 w4 hown hgrow _;obtain ⟨A4,c4,hv4⟩:=own_slice hown;subst hv4;have HO4:=Lib.hid hown;have B4:Hid (Below w.heap.size w w4):=Lib.hid (B3.out.grown hgrow B3.out.size (fun g hg=>(O3.out.lt g hg).1));have L4:Hid (BytesIn w4 A n l):=Lib.hid (HL.out.below B4.out);clear hown hgrow)
  | (at_builtin;refine wpList_append_src _ rfl (.tmp 12) (.tmp 13) 24 rfl w.heap.size 5 i0 (.int .u8 0) 1 Tryz.underlying24 hi hz0 hz1 hz2 rfl _ _ _ rfl HO4.out A n c (l.map byteV) rfl L4.out.2.1 (u8_one l) (by unfold maxLen;omega) (by omega) B4.out.size ?_;intro v5 w5 hown hgrow _;have HO5:=Lib.hid hown;have B5:Hid (Below w.heap.size w w5):=Lib.hid (B4.out.grown hgrow B4.out.size (fun g hg=>(HO4.out.lt g hg).1));clear hown hgrow))
 go_ret
 refine ⟨_,rfl,?_,B5.out⟩
 rw [HP.out]
 have h5:=HO5.out
 simp only [List.length_append,List.map_append,List.append_assoc,H4.out] at h5 ⊢
 rw [HLN.out]
 simpa [Nat.add_assoc] using h5
theorem lPutRising_any (w:World) (A:Option Addr) (n c:Nat) (l:List Int) (hl:IntsIn w A n l) (hn:n≤1099511627776):
  Calls Tryz.prog 133 #[.slice A n c] w (PutROut w l):=by
 have HL:=Lib.hid hl
 have HLN:=Lib.hid hl.len
 have HLX:=Lib.hid (fun x hx=>(hl.2.2.1 x hx).2)
 clear hl
 go_enter Tryz.func133,Tryz.ntmps133
 go_wp2_with fail
 refine (lPut_any w n (by omega)).mono ?_
 rintro e w1 ⟨v1,rfl,hO,hB⟩
 have HO:=Lib.hid hO
 have HB:=Lib.hid hB
 clear hO hB
 go_wp2
 go_loopw [4,5,14] (fun v p i wr=>∃ (k:Nat) (la:Int),k≤n∧i=.int .i64 k∧p=.int .i64 la∧la=(l.take k).getLastD (-1)∧la≤9223372036854775807∧rises (-1) (l.take k)=true∧Below w.heap.size w wr∧wr.ownsRow w.heap.size 5 1 v (putUp l k).length ((putUp l k).map byteV)) (fun _ _ i _=>n - (intOf i).toNat)
 case atStart=>exact ⟨0,-1,by omega,rfl,rfl,rfl,by omega,rfl,HB.out,by have:=HO.out;rw [← HLN.out] at this;simpa [putUp,gaps,putGaps] using this⟩
 case round=>
  clear HO HB
  obtain ⟨k,la,hk,rfl,rfl,hla,hla2,hr,hB,hO⟩:=hrel
  have HR:=Lib.hid hr
  have HO:=Lib.hid hO
  have HB:=Lib.hid hB
  have HLA:=Lib.hid hla
  clear hr hO hB hla
  rcases Nat.lt_or_ge k n with hlt | hge
  ·have hlt':(k:Int) < (n:Int):=by omega
   obtain ⟨Av,cv,hv⟩:=own_slice HO.out
   subst hv
   obtain ⟨ad,x,rfl,hx,hcx,hx1,hx2⟩:=(HL.out.below HB.out).at k hlt
   have HX:=Lib.hid hx
   clear hx
   have hul:=putUp_len (by rw [HLN.out];exact hk) HR.out HLX.out (by rw [HLN.out];omega)
   have hlast:=rises_last _ _ HR.out
   rw [← HLA.out] at hlast
   by_cases hle:x≤la
   ·have hbad:rises (-1) l=false:=by
     cases h:rises (-1) l with
     | false=>rfl
     | true=>
      have h1:=rises_prefix (l.take (k+1)) (l.drop (k+1)) (-1) (by rw [List.take_append_drop];exact h)
      rw [take_snoc HX.out,rises_snoc,← HLA.out] at h1
      simp only [Bool.and_eq_true,decide_eq_true_eq] at h1
      omega
    have HBAD:=Lib.hid hbad
    clear hbad hul
    go_wp2
    go_ret2
    exact ⟨_,_,rfl,HB.out,.inr ⟨HBAD.out,rfl,rfl⟩⟩
   ·have hs1:IntKind.i64.wrap (la+1)=la+1:=IntWalk.i64_in _ (by omega)
    have hs2:IntKind.i64.wrap (x - (la+1))=x - (la+1):=IntWalk.i64_in _ (by omega)
    obtain ⟨g,hg⟩:∃ g:Nat,x - (la+1)=(g:Int):=⟨(x - (la+1)).toNat,by omega⟩
    have hwr:IntKind.u64.wrap (x - (la+1))=(g:Int):=by rw [hg,IntKind.wrap_u64];omega
    have hgm:g < 9223372036854775808:=by omega
    have hG:(x - (l.take k).getLastD (-1) - 1).toNat=g:=by rw [← HLA.out];omega
    have hLT:decide ((l.take k).getLastD (-1) < x)=true:=by rw [← HLA.out];simp;omega
    have HG:=Lib.hid hG
    have HLT:=Lib.hid hLT
    have hyl:(putUp l k).length≤70368744177664:=by omega
    have hup:putUp l (k+1)=putUp l k++putL g:=by
     unfold putUp
     rw [take_snoc HX.out,gaps_snoc,putGaps_snoc,HG.out,List.append_assoc]
    have HUP:=Lib.hid hup
    clear hG hLT hg hup hul
    go_wp2_with fail
    refine (lAdd_any wr w.heap.size HB.out.size (.slice Av (putUp l k).length cv) (putUp l k) hyl HO.out g (by omega)).mono ?_
    rintro e w2 ⟨v2,rfl,hO2,hB2⟩
    have HO2:=Lib.hid hO2
    have HB2:=Lib.hid (HB.out.trans hB2)
    clear hO2 hB2
    go_wp2
    go_roundw
    case rel=>
     refine ⟨k+1,x,by omega,by go_num,rfl,?_,by omega,?_,HB2.out,?_⟩
     ·rw [take_snoc HX.out,List.getLastD_concat]
     ·rw [take_snoc HX.out,rises_snoc,HR.out,HLT.out]
      rfl
     ·rw [HUP.out]
      exact HO2.out
    case measure=>simp [intOf];omega
  ·obtain rfl:k=n:=by omega
   have hlz:¬ ((k:Int) < (k:Int)):=by omega
   have htk:l.take k=l:=List.take_of_length_le (by rw [HLN.out];exact Nat.le_refl _)
   go_wp2
   go_ret2
   refine ⟨_,_,rfl,HB.out,.inl ⟨?_,rfl,?_⟩⟩
   ·rw [← htk];exact HR.out
   ·have:=HO.out
    unfold putUp at this
    rw [htk] at this
    exact this
theorem lOver_any (w:World) (v:Nat) (most:Int) (hm1:-9223372036854775808≤most) (hm2:most≤9223372036854775807):
  Calls Tryz.prog 149 #[.int .u64 v,.int .i64 most] w fun e w'=>e=.returned (.bool (decide (most < 0∨most < (v:Int))))∧w'=w:=by
 by_cases hm:most < 0
 ·have d1:decide (most < 0)=true:=by simpa using hm
  rw [decide_eq_true (Or.inl hm)]
  go_enter Tryz.func149,Tryz.ntmps149
  go_wp2
  go_ret
  exact ⟨rfl,rfl⟩
 ·have d1:decide (most < 0)=false:=by simpa using hm
  have hwm:IntKind.u64.wrap most=most:=by rw [IntKind.wrap_u64];omega
  have e:decide (most < 0∨most < (v:Int))=decide (most < (v:Int)):=by
   by_cases h:most < (v:Int) <;> simp [h,hm]
  rw [e]
  clear e hm
  go_enter Tryz.func149,Tryz.ntmps149
  go_wp2
  go_ret
  exact ⟨rfl,rfl⟩
theorem lGetRising_any (w:World) (A:Option Addr) (n c:Nat) (l:Nm) (hl:BytesIn w A n l) (hc:n≤c) (hn:n≤1099511627776) (most:Int) (hm1:-9223372036854775808≤most) (hm2:most≤9223372036854775807):
  Calls Tryz.prog 217 #[.slice A n c,.int .i64 most] w (GetROut w (getR l most)):=by
 obtain ⟨i0,hi,hz0,hz1,hz2⟩:=info_parts intInfo64
 have HL:=Lib.hid hl
 have hln:l.length=n:=by have:=hl.2.1.len;simpa using this
 have HLN:=Lib.hid hln
 clear hl hln
 go_enter Tryz.func217,Tryz.ntmps217
 go_wp2
 go_step3
 go_wp2_with fail
 refine (lGet_any w A n c l HL.out).mono ?_
 rintro e w1 ⟨rfl,hw⟩
 rw [hw]
 clear hw
 unfold gotV
 obtain ⟨G,hG⟩:∃ G,G=getL l:=⟨_,rfl⟩
 rw [← hG]
 obtain ⟨many,at0',e0⟩:=G
 by_cases he:e0=0
 ·subst he
  have hg:=getL_inv hG.symm
  obtain ⟨g1,g2,g3,g4,g5⟩:=hg
  by_cases hm:most < 0∨most < (many:Int)
  ·have hres:getR l most=([],0,2):=by
    unfold getR
    rw [← hG]
    simp only
    rw [if_neg (by simp),if_pos hm]
   have HRES:=Lib.hid hres
   have HG:=Lib.hid hG
   have hd:=decide_eq_true hm
   clear hG hres g4
   go_wp2_with fail
   refine (lOver_any w many most hm1 hm2).mono ?_
   rintro e w1 ⟨rfl,hw⟩
   rw [hw,hd]
   clear hw hd hm
   go_wp2
   try rw [Exit.noGoto_ret]
   go_ret3
   exact gerr HRES.out (Below.refl _ _)
  have hres:getR l most=getRAux many (-1) at0' (l.drop at0') []:=by
   unfold getR
   rw [← hG]
   simp only
   rw [if_neg (by simp),if_neg hm]
  have HRES:=Lib.hid hres
  have HG:=Lib.hid hG
  have hd:=decide_eq_false hm
  clear hG hres g4 hm
  have g3n:at0'≤n:=by rw [← HLN.out];exact g3
  go_wp2_with fail
  refine (lOver_any w many most hm1 hm2).mono ?_
  rintro e w1 ⟨rfl,hw⟩
  rw [hw,hd]
  clear hw hd
  go_wp2
  go_step3
  go_wp2
  go_loopw [8,9,10,11,28] (fun a er v s i wr=>∃ (k at_ least:Nat) (acc:List Int),k≤many∧a=.int .i64 at_∧er=.int .i64 0∧s=.int .u64 least∧i=.int .u64 k∧at_≤n∧least≤9223372036854775808∧acc.length=k∧k < at_∧
   getRAux (many - k) ((least:Int) - 1) at_ (l.drop at_) acc=getR l most∧Below w.heap.size w wr∧wr.ownsRow w.heap.size 2 1 v acc.length (acc.map i64V)) (fun _ _ _ _ i _=>many - (intOf i).toNat)
  case atStart=>exact ⟨0,at0',0,[],by omega,rfl,rfl,rfl,rfl,g3n,by omega,rfl,g1,by rw [HRES.out];rfl,Below.refl _ _,⟨rfl,.inl ⟨rfl,rfl⟩⟩⟩
  case round=>
   obtain ⟨k,at_,least,acc,hk,rfl,rfl,rfl,rfl,hat,hlast,hacc,hkat,hgr,hB,hO⟩:=hrel
   have HGR:=Lib.hid hgr
   have HB:=Lib.hid hB
   have HO:=Lib.hid hO
   have HACC:=Lib.hid hacc
   clear hgr hB hO hacc
   obtain ⟨Av,cv,hv⟩:=own_slice HO.out
   subst hv
   rcases Nat.lt_or_ge k many with hlt | hge
   ·have hlt':(k:Int) < (many:Int):=by omega
    have s1:∀ w,(Instr.slice 24 (.slice A n c) (some (.int .i64 at_)) none none).run Tryz.prog w=.ok (.slice (cutAddr A at_ c) (n - at_) (c - at_)) w:=fun w=>slice_from w A n c at_ hat
    have hsub:=(HL.out.below HB.out).sub hc at_ n hat (Nat.le_refl _)
    rw [show (l.take n).drop at_=l.drop at_ by rw [List.take_of_length_le (by rw [HLN.out];exact Nat.le_refl _)]] at hsub
    have HSUB:=Lib.hid hsub
    clear hsub
    obtain ⟨v,j,e,hg⟩:∃ v j e,getL (l.drop at_)=(v,j,e):=⟨_,_,_,rfl⟩
    obtain ⟨m,hm⟩:∃ m,many - k=m+1:=⟨many - k - 1,by omega⟩
    have hstep:=HGR.out
    rw [hm] at hstep
    simp only [getRAux,hg] at hstep
    have HSTEP:=Lib.hid hstep
    have HGG:=Lib.hid hg
    have HM:=Lib.hid hm
    clear hstep hg hm
    go_wp2_with fail
    refine (lGet_any wr (cutAddr A at_ c) (n - at_) (c - at_) (l.drop at_) HSUB.out).mono ?_
    rintro e2 w2 ⟨rfl,hw⟩
    rw [hw,HGG.out]
    clear hw
    unfold gotV
    by_cases he:e=0
    ·subst he
     have hgi:=getL_inv HGG.out
     obtain ⟨q1,q2,q3,q4,q5⟩:=hgi
     rw [List.length_drop,HLN.out] at q3
     clear q4
     have hstep:=HSTEP.out
     rw [if_neg (by simp)] at hstep
     have hj:IntKind.i64.wrap ((at_:Int)+(j:Int))=((at_+j:Nat):Int):=by rw [IntWalk.i64_in _ (by omega)];simp
     obtain ⟨at2,hat2⟩:∃ a,a=at_+j:=⟨_,rfl⟩
     rw [← hat2] at hj
     obtain ⟨T,hT⟩:∃ T:Nat,T=9223372036854775808 - least:=⟨_,rfl⟩
     have hTz:IntKind.u64.wrap (9223372036854775808 - (least:Int))=(T:Int):=by rw [IntKind.wrap_u64];omega
     by_cases hov:T≤v
     ·have hovz:(T:Int)≤(v:Int):=by omega
      rw [if_pos (by omega)] at hstep
      have HS:=Lib.hid hstep
      clear hstep hT hat2
      go_wp2
      try rw [Exit.noGoto_ret]
      go_ret3
      exact gerr HS.out.symm HB.out
     ·have hovz:¬ (T:Int)≤(v:Int):=by omega
      rw [if_neg (by omega)] at hstep
      obtain ⟨z,hz⟩:∃ z:Nat,z=least+v:=⟨_,rfl⟩
      obtain ⟨v1,hv1⟩:∃ u:Nat,u=v+1:=⟨_,rfl⟩
      obtain ⟨z1,hz1'⟩:∃ u:Nat,u=z+1:=⟨_,rfl⟩
      have hv1z:IntKind.u64.wrap ((v:Int)+1)=(v1:Int):=by rw [IntKind.wrap_u64];omega
      have hzz:IntKind.u64.wrap ((least:Int)+(v:Int))=(z:Int):=by rw [IntKind.wrap_u64];omega
      have hz1z:IntKind.u64.wrap ((least:Int)+(v1:Int))=(z1:Int):=by rw [IntKind.wrap_u64];omega
      have hzi:IntKind.i64.wrap (z:Int)=(z:Int):=IntWalk.i64_in _ (by omega)
      have hzm:z1≤9223372036854775808:=by omega
      have hat2n:at2≤n:=by omega
      have hka2:k+1 < at2:=by omega
      rw [show (least:Int) - 1+(v:Int)+1=(z:Int) by omega,List.drop_drop,← hat2] at hstep
      have hzb:(z1:Int) - 1=(z:Int):=by omega
      have HS:=Lib.hid hstep
      have HZB:=Lib.hid hzb
      have hal:acc.length≤1099511627776:=by have:=HACC.out;omega
      clear hstep hT hat2 hz hv1 hz1' hzb
      go_wp2_with (at_builtin;refine wpList_append_src _ rfl (.tmp 47) (.tmp 52) 196 rfl w.heap.size 2 i0 (.int .i64 0) 8 Tryz.underlying196 hi hz0 hz1 hz2 rfl _ acc.length _ rfl (World.ownsRow.alloc HO.out _) _ 1 1 _ rfl (one_int_src wr 2 z) (i64V_one [(z:Int)]) (by unfold maxLen;omega) (by omega) (by have:=HB.out.size;simp;omega) ?_;intro v3 w3 hown hgrow _;have HO3:=Lib.hid hown;have HB3:=Lib.hid ((HB.out.alloc HB.out.size _).grown hgrow (by have:=HB.out.size;simp;omega) (fun g hg=>(HO.out.lt g hg).1));clear hown hgrow)
      go_roundw
      case rel=>
       refine ⟨k+1,at2,z1,acc++[(z:Int)],by omega,rfl,rfl,rfl,by go_num,by omega,by omega,by rw [List.length_append,HACC.out];rfl,by omega,?_,HB3.out,?_⟩
       ·rw [HZB.out,show many - (k+1)=m by have:=HM.out;omega]
        exact HS.out
       ·rw [List.length_append,List.map_append]
        exact HO3.out
      case measure=>simp [intOf];omega
    ·have hstep:=HSTEP.out
     rw [if_pos he] at hstep
     have HS:=Lib.hid hstep
     have d1:(e != 0)=true:=by simpa using he
     clear hstep he
     go_wp2
     try rw [Exit.noGoto_ret]
     go_ret3
     exact gerr HS.out.symm HB.out
   ·obtain rfl:k=many:=by omega
    have hlz:¬ ((k:Int) < (k:Int)):=by omega
    have hfin:getR l most=(acc,at_,0):=by
     have:=HGR.out
     rw [Nat.sub_self] at this
     exact this.symm
    have HF:=Lib.hid hfin
    clear hfin
    go_wp2
    try rw [Exit.noGoto_ret]
    go_ret3
    exact gok HF.out HB.out HO.out
 ·have hres:getR l most=([],0,e0):=by
   unfold getR
   rw [← hG]
   simp only
   rw [if_pos he]
  have HRES:=Lib.hid hres
  have HG:=Lib.hid hG
  clear hG hres
  go_wp2
  try rw [Exit.noGoto_ret]
  go_ret3
  exact gerr HRES.out (Below.refl _ _)
theorem le4_iff {l:List UInt8} {s:Nat} (hl:4≤l.length) (hs:s < 4294967296):l.take 4=le4 s↔s=un4 l:=by
 obtain ⟨a,b,c,d,r,rfl⟩:=four hl
 constructor
 ·intro h
  have h1:a :: b :: c :: d :: r=le4 s++r:=by
   rw [← h]
   rfl
  rw [h1,un4_le4 hs]
 ·rintro rfl
  rw [le4_un4]
  rfl
theorem heldMore {P:Program} {md:Region.Mode} {ops:Array Oper} {Q:Exit→Act→World→Prop} {S S':World→Prop} (h:∀ w,S' w→S w):∀ (fuel:Nat) (listed:Array Bool) (a:Act) (w:World),wpAnyH P md ops Q S' fuel listed a w→wpAnyH P md ops Q S fuel listed a w
 | 0,_,_,_,k=>k
 | fuel+1,_,_,_,k=>⟨k.1,fun i hi=>wpOp_mono (fun a' w' h'=>⟨h w' h'.1,heldMore h fuel _ a' w' h'.2⟩) (k.2 i hi)⟩
set_option linter.unusedSimpArgs false in
theorem fGet_any (w:World) (A:Option Addr) (n c:Nat) (l:Nm) (hl:BytesIn w A n l) (hc:n≤c) (hn:n≤1099511627776):
  Calls Tryz.prog 144 #[.slice A n c] w (GetFOut w (getF l)):=by
 have HL:=Lib.hid hl
 have hln:l.length=n:=by have:=hl.2.1.len;simpa using this
 have HLN:=Lib.hid hln
 clear hl hln
 obtain ⟨N,k,e,hg⟩:∃ N k e,getL l=(N,k,e):=⟨_,_,_,rfl⟩
 obtain ⟨G,hG⟩:∃ G,G=getF l:=⟨_,rfl⟩
 rw [← hG]
 unfold getF at hG
 rw [hg] at hG
 simp only at hG
 have HGG:=Lib.hid hg
 by_cases he:e=0
 ·subst he
  obtain ⟨g1,g2,g3,g4,g5⟩:=getL_inv hg
  rw [HLN.out] at g3
  rw [if_neg (by simp)] at hG
  clear hg g4
  by_cases hbig:262144 < N
  ·have hbz:(262144:Int) < (N:Int):=by omega
   rw [if_pos hbig] at hG
   have HG:=Lib.hid hG
   clear hG
   go_enter Tryz.func144,Tryz.ntmps144
   go_wp2_with fail
   refine (lGet_is w A n c l HL.out HGG.out).mono ?_
   rintro e2 w2 ⟨rfl,hw⟩
   rw [hw]
   clear hw
   go_wp2
   go_ret3
   exact gferr HG.out (Below.refl _ _)
  have hbz:¬ (262144:Int) < (N:Int):=by omega
  rw [if_neg hbig] at hG
  obtain ⟨E,hE⟩:∃ E,E=k+4+N:=⟨_,rfl⟩
  have hK4:IntKind.i64.wrap ((k:Int)+4)=(k:Int)+4:=IntWalk.i64_in _ (by omega)
  have hNz:IntKind.i64.wrap (N:Int)=(N:Int):=IntWalk.i64_in _ (by omega)
  have hEz:IntKind.i64.wrap ((k:Int)+4+(N:Int))=(E:Int):=by rw [IntWalk.i64_in _ (by omega)];omega
  rw [← hE,HLN.out] at hG
  obtain ⟨K4,hK4'⟩:∃ K,K=k+4:=⟨_,rfl⟩
  have e4:(k:Int)+4=(K4:Int):=by omega
  have e5:(K4:Int)+(N:Int)=(E:Int):=by omega
  by_cases hend:n < E
  ·have hendz:(n:Int) < (E:Int):=by omega
   rw [if_pos hend] at hG
   have HG:=Lib.hid hG
   clear hG hE hK4'
   go_enter Tryz.func144,Tryz.ntmps144
   go_wp2_with fail
   refine (lGet_is w A n c l HL.out HGG.out).mono ?_
   rintro e2 w2 ⟨rfl,hw⟩
   rw [hw]
   clear hw
   go_wp2
   go_ret3
   exact gferr HG.out (Below.refl _ _)
  have hendz:¬ (n:Int) < (E:Int):=by omega
  rw [if_neg hend] at hG
  obtain ⟨x,hx⟩:∃ x,x=(l.drop (k+4)).take N:=⟨_,rfl⟩
  obtain ⟨y,hy⟩:∃ y,y=(l.drop k).take 4:=⟨_,rfl⟩
  have s3:∀ w,(Instr.slice 24 (.slice A n c) (some (.int .i64 K4)) (some (.int .i64 E)) none).run Tryz.prog w=.ok (.slice (cutAddr A K4 c) N (c - K4)) w:=fun w=>by
   have h:=slice_both w A n c K4 E (by omega) (by omega)
   rw [h,show E - K4=N by omega]
  have s4:∀ w,(Instr.slice 24 (.slice A n c) (some (.int .i64 k)) (some (.int .i64 K4)) none).run Tryz.prog w=.ok (.slice (cutAddr A k c) 4 (c - k)) w:=fun w=>by
   have h:=slice_both w A n c k K4 (by omega) (by omega)
   rw [h,show K4 - k=4 by omega]
  have hsub:=HL.out.sub hc K4 E (by omega) (by omega)
  rw [show E=K4+N by omega,drop_take',Nat.add_sub_cancel_left,show K4=k+4 by omega,← hx,show k+4=K4 by omega] at hsub
  have HSUB:=Lib.hid hsub
  have hsub2:=HL.out.sub hc k K4 (by omega) (by omega)
  rw [show K4=k+4 by omega,drop_take',Nat.add_sub_cancel_left,← hy] at hsub2
  have HSUB2:=Lib.hid hsub2
  rw [← hx] at hG
  have HIFF:Hid (y=le4 (sumN x)↔sumN x=un4 (l.drop k)):=Lib.hid (by rw [hy];exact le4_iff (by rw [List.length_drop];have:=HLN.out;omega) (sumN_lt x))
  have HXN:Hid (x.length=N):=Lib.hid (by rw [hx];simp;have:=HLN.out;omega)
  have hNl:N≤262144:=by omega
  have HG:=Lib.hid hG
  clear hG hE hK4' hsub hsub2 hx hy
  go_enter Tryz.func144,Tryz.ntmps144
  go_wp2_with fail
  refine (lGet_is w A n c l HL.out HGG.out).mono ?_
  rintro e2 w2 ⟨rfl,hw⟩
  rw [hw]
  clear hw
  go_wp2_with fail
  refine wp_region_held_drew (S:=fun w'=>Below w.heap.size w w') (by kernel_rfl) ?_ (fun hHeld=>?_)
  ·exact (Below.refl _ _).drew
  refine wpAnyH_take (i:=0) (oi:=?oi0) (v:=?v0) ?hi0 (by kernel_rfl) (by kernel_rfl) (by kernel_rfl) ?hQ0 (Or.inl ⟨?hw0,?hy0⟩) (by assumption) ?rest0
  case hi0=>(first | (simp only [lz0,lz1,lz2];rfl) | rfl)
  case hQ0=>exact fun _ _ _ h=>h
  case hw0=>rfl
  case hy0=>((intro w hSw;go_simp);first | done | with_reducible rfl)
  try simp only [Act.put,lz3,lz4,lz5]
  refine wpAnyH_take (i:=1) (oi:=?oi1) (v:=?v1) ?hi1 (by kernel_rfl) (by kernel_rfl) (by kernel_rfl) ?hQ1 (Or.inl ⟨?hw1,?hy1⟩) (by assumption) ?rest1
  case hi1=>(first | (simp only [lz0,lz1,lz2];rfl) | rfl)
  case hQ1=>exact fun _ _ _ h=>h
  case hw1=>rfl
  case hy1=>((intro w hSw;go_simp);first | done | with_reducible rfl)
  try simp only [Act.put,lz3,lz4,lz5]
  refine wpAnyH_take (i:=2) (oi:=?oi2) (v:=?v2) ?hi2 (by kernel_rfl) (by kernel_rfl) (by kernel_rfl) ?hQ2 (Or.inl ⟨?hw2,?hy2⟩) (by assumption) ?rest2
  case hi2=>(first | (simp only [lz0,lz1,lz2];rfl) | rfl)
  case hQ2=>exact fun _ _ _ h=>h
  case hw2=>rfl
  case hy2=>((intro w hSw;go_simp);first | done | with_reducible rfl)
  try simp only [Act.put,lz3,lz4,lz5]
  refine wpAnyH_take (i:=3) (oi:=?oi3) (v:=?v3) ?hi3 (by kernel_rfl) (by kernel_rfl) (by kernel_rfl) ?hQ3 (Or.inl ⟨?hw3,?hy3⟩) (by assumption) ?rest3
  case hi3=>(first | (simp only [lz0,lz1,lz2];rfl) | rfl)
  case hQ3=>exact fun _ _ _ h=>h
  case hw3=>rfl
  case hy3=>((intro w hSw;go_simp);first | done | with_reducible rfl)
  try simp only [Act.put,lz3,lz4,lz5]
  refine wpAnyH_take (i:=4) (oi:=?oi4) (v:=?v4) ?hi4 (by kernel_rfl) (by kernel_rfl) (by kernel_rfl) ?hQ4 (Or.inl ⟨?hw4,?hy4⟩) (by assumption) ?rest4
  case hi4=>(first | (simp only [lz0,lz1,lz2];rfl) | rfl)
  case hQ4=>exact fun _ _ _ h=>h
  case hw4=>rfl
  case hy4=>((intro w hSw;go_simp);first | done | with_reducible rfl)
  try simp only [Act.put,lz3,lz4,lz5]
  refine wpAnyH_ready (rs:=[5]) (by kernel_rfl) (by simp) ?_
  refine AllReadyH.cons (o:=?o1) ?hc1 ?st1 AllReadyH.nil
  case hc1=>(simp only [lz0,lz1,lz2];rfl)
  intro K hK
  go_simp
  refine (fSumBytes_any _ _ _ _ x (HSUB.out.below hHeld)).mono ?_
  rintro e w5 ⟨S,rfl,hS,hSB,hb⟩
  have H5:=Lib.hid (below_then hHeld hb (Below.size hHeld))
  have SB:=Lib.hid hSB
  clear hb hS hSB
  go_wp2_with fail
  refine hK.out _ _ H5.out (fun _=>?_)
  clear hK K
  refine heldMore (S':=fun w'=>w'=w5) (fun w h=>h ▸ H5.out) _ _ _ _ ?_
  have hHeld2:(fun w'=>w'=w5) w5:=rfl
  try simp only [Act.put,lz3,lz4,lz5]
  refine wpAnyH_ready (rs:=[6]) (by kernel_rfl) (by simp) ?_
  refine AllReadyH.cons (o:=?o2) ?hc2 ?st2 AllReadyH.nil
  case hc2=>(simp only [lz0,lz1,lz2];rfl)
  intro K hK
  go_simp
  refine (equal_any _ _ _ _ _ _ _ y (le4 (sumN x)) (HSUB2.out.below H5.out) SB.out).mono ?_
  rintro e w6 ⟨rfl,hw⟩
  rw [hw]
  clear hw w6
  go_wp2_with fail
  refine hK.out _ _ rfl (fun _=>?_)
  clear hK K
  obtain ⟨t,ht⟩:∃ t,t=decide (y=le4 (sumN x)):=⟨_,rfl⟩
  rw [← ht]
  have HT:=Lib.hid ht
  clear ht
  try simp only [Act.put,lz3,lz4,lz5]
  refine wpAnyH_take (i:=7) (oi:=?oib7) (v:=?vb7) ?hib7 (by kernel_rfl) (by kernel_rfl) (by kernel_rfl) ?hQb7 (Or.inl ⟨?hwb7,?hyb7⟩) (by assumption) ?restb7
  case hib7=>(first | (simp only [lz0,lz1,lz2];rfl) | rfl)
  case hQb7=>exact fun _ _ _ h=>h
  case hwb7=>rfl
  case hyb7=>((intro w hSw;go_simp);first | done | with_reducible rfl)
  try simp only [Act.put,lz3,lz4,lz5]
  refine wpAnyH_done (by kernel_rfl) ?_ _
  by_cases hsum:sumN x=un4 (l.drop k)
  ·have htt:t=true:=by rw [HT.out];exact decide_eq_true (HIFF.out.2 hsum)
   rw [htt]
   have hG:=HG.out
   rw [if_neg (by simpa using hsum)] at hG
   have HG2:=Lib.hid hG
   clear hG htt hsum
   go_wp2_with fail
   refine (clone_any w5 _ _ _ x (HSUB.out.below H5.out) (by omega)).mono ?_
   rintro e w7 ⟨v,rfl,hO,hb⟩
   have B7:=Lib.hid (below_then H5.out hb H5.out.size)
   have O7:=Lib.hid (Go.Joins.ownsRow_le hO H5.out.size)
   clear hO hb
   go_wp2
   go_ret3
   exact gfok HG2.out B7.out (by rw [HXN.out];exact O7.out)
  ·have htt:t=false:=by rw [HT.out];exact decide_eq_false (fun h=>hsum (HIFF.out.1 h))
   rw [htt]
   have hG:=HG.out
   rw [if_pos (by simpa using hsum)] at hG
   have HG2:=Lib.hid hG
   clear hG htt hsum
   go_wp2
   go_ret3
   exact gferr HG2.out H5.out
 ·rw [if_pos he] at hG
  have HG:=Lib.hid hG
  clear hG hg
  have d1:(e != 0)=true:=by simpa using he
  go_enter Tryz.func144,Tryz.ntmps144
  go_wp2_with fail
  refine (lGet_is w A n c l HL.out HGG.out).mono ?_
  rintro e2 w2 ⟨rfl,hw⟩
  rw [hw]
  clear hw
  go_wp2
  go_ret3
  exact gferr HG.out (Below.refl _ _)
end Go.Proofs.YthcjikpabpgpfaaGreat
