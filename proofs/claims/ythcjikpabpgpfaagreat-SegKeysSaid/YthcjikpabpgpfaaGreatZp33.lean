import Derived.Test.YthcjikpabpgpfaaGreatZp0
import Derived.Test.YthcjikpabpgpfaaGreatZp9
import Derived.Test.YthcjikpabpgpfaaGreatZp16
import Derived.Test.YthcjikpabpgpfaaGreatZp28
import Derived.Deep.RegionHeld3
set_option linter.unusedSimpArgs false
set_option maxHeartbeats 16000000
set_option maxRecDepth 100000
namespace Go.Proofs.YthcjikpabpgpfaaGreat
open Go.RowKit Go.Maps Go.WideMaps
theorem spPut_any (w:World) (vb base:Nat) (v:Value) (Q:Nm) (hV:Blk w vb 24 #[v]) (hO:w.ownsRow base 5 1 v Q.length (Q.map byteV)) (hvb:vb < base) (hbw:base≤w.heap.size) (A:Option Addr) (k c:Nat) (L:List Nm) (hL:RowsSee w A k L) (hk:k≤1099511627776) (h0:0 < L.flatten.length) (hz:L.flatten.length≤1099511627776) (hq:Q.length≤100000000000000):
  Calls Tryz.prog 32 #[.slice A k c,.pointer (some ⟨vb,0,none⟩)] w fun e w'=>e=.returned (.tuple #[])∧∃ v',Blk w' vb 24 #[v']∧w'.ownsRow base 5 1 v' (Q++putF L.flatten).length ((Q++putF L.flatten).map byteV)∧Kept (fun i=>i=vb∨v.ownBlock=some i) w w':=by
 obtain ⟨i0,hi,hz0,hz1,hz2⟩:=info_parts byteInfo
 have HV:=Lib.hid hV
 have HO:=Lib.hid hO
 have HRS:=Lib.hid hL
 obtain ⟨zn,hzn⟩:∃ z,z=L.flatten.length:=⟨_,rfl⟩
 obtain ⟨pn,hpn⟩:∃ z,z=(putF L.flatten).length:=⟨_,rfl⟩
 have hpl:pn≤zn+14:=by rw [hpn,hzn];exact putF_le (by omega)
 have HFIN:Hid (∀ (u:World) (v':Value),u.ownsRow base 5 1 v' (Q.length+pn) (Q.map byteV++(putF L.flatten).map byteV)→Blk u vb 24 #[v]→Kept (fun i=>i=vb∨v.ownBlock=some i) w u→∃ v2,Blk (u.setCell ⟨vb,0,none⟩ v') vb 24 #[v2]∧(u.setCell ⟨vb,0,none⟩ v').ownsRow base 5 1 v2 (Q++putF L.flatten).length ((Q++putF L.flatten).map byteV)∧Kept (fun i=>i=vb∨v.ownBlock=some i) w (u.setCell ⟨vb,0,none⟩ v')):=Lib.hid (fun u v' h1 h2 h3=>by
  refine ⟨v',by simpa using h2.set_ 0 v',?_,h3.setCell (.inl (.inl rfl)) _⟩
  rw [List.length_append,List.map_append,← hpn]
  exact ownsRow_block h1 fun g hg=>heap_setCell_other _ _ _ (by have:=(h1.lt g hg).1;simp only;omega))
 rw [← hzn] at h0 hz
 have HZN:=Lib.hid hzn
 have HPN:=Lib.hid hpn
 clear hV hO hL hzn hpn
 go_enter Tryz.func32,Tryz.ntmps32
 go_wp2_with fail
 refine wp_region_held_drew (S:=fun _=>True) (by kernel_rfl) trivial (fun hHeld=>?_)
 obtain ⟨u0,hu0⟩:∃ zz,zz=w.drew:=⟨_,rfl⟩
 try rw [← hu0] at hHeld
 rw [← hu0]
 have HB0:Hid (Below w.heap.size w u0):=Lib.hid (by rw [hu0];exact (Below.refl _ w).drew)
 clear hu0
 refine wpAnyH_take (i:=1) (oi:=?oia11) (v:=?va11) ?hia11 (by kernel_rfl) (by kernel_rfl) (by kernel_rfl) ?hQa11 (Or.inl ⟨?hwa11,?hya11⟩) (by assumption) ?resta11
 case hia11=>(first | (simp only [lz0,lz1,lz2];rfl) | rfl)
 case hQa11=>exact fun _ _ _ h=>h
 case hwa11=>rfl
 case hya11=>((intro w hSw;go_simp);first | done | with_reducible rfl)
 try simp only [Act.put,lz3,lz4,lz5]
 refine wpAnyH_ready (rs:=[0,2]) (by kernel_rfl) (by simp) ?_
 refine AllReadyH.cons (o:=?oa2) ?ha2 ?sa2 (AllReadyH.cons (o:=?oa3) ?ha3 ?sa3 AllReadyH.nil)
 case ha2=>(simp only [lz0,lz1,lz2];rfl)
 case ha3=>(simp only [lz0,lz1,lz2];rfl)
 case sa2=>
  intro K hK
  have yp1:=(HV.out.below HB0.out HV.out.lt).cell 0
  simp only [lz0,lz1,lz2] at yp1
  go_simp
  clear yp1
  refine hK.out _ _ trivial (fun ha4=>?_)
  clear hK K
  try simp only [Act.put,lz3,lz4,lz5]
  refine wpAnyH_ready (rs:=[2]) (by kernel_rfl) (by simp) ?_
  refine AllReadyH.cons (o:=?oa5) ?ha5 ?sa5 AllReadyH.nil
  case ha5=>(simp only [lz0,lz1,lz2];rfl)
  case sa5=>
   intro K hK
   go_simp
   refine (kConcat_any u0 A k c L (HRS.out.below HB0.out) (by rw [← HZN.out];exact h0) (by rw [← HZN.out];exact hz) hk).mono ?_
   rintro e up2 ⟨vc,rfl,hop5,hbp6⟩
   rw [← HZN.out] at hop5
   obtain ⟨Ap3,cp4,rfl⟩:=own_slice hop5
   have HIp7:Hid (BytesIn up2 Ap3 zn L.flatten):=Lib.hid (BytesIn.own hop5 (by unfold maxLen;omega))
   have Bp8:=Lib.hid (below_then HB0.out hbp6 HB0.out.size)
   clear hop5 hbp6
   go_wp2_with fail
   refine hK.out _ _ trivial (fun ha6=>?_)
   clear hK K
   try simp only [Act.put,lz3,lz4,lz5]
   refine wpAnyH_ready (rs:=[3]) (by kernel_rfl) (by simp) ?_
   refine AllReadyH.cons (o:=?oa7) ?ha7 ?sa7 AllReadyH.nil
   case ha7=>(simp only [lz0,lz1,lz2];rfl)
   case sa7=>
    intro K hK
    go_simp
    refine (fPut_any up2 Ap3 zn cp4 L.flatten HIp7.out (by omega)).mono ?_
    rintro e up9 ⟨vc,rfl,hop12,hbp13⟩
    rw [← HPN.out] at hop12
    obtain ⟨Ap10,cp11,rfl⟩:=own_slice hop12
    have HIp14:Hid (BytesIn up9 Ap10 pn (putF L.flatten)):=Lib.hid (BytesIn.own hop12 (by unfold maxLen;omega))
    have Bp15:=Lib.hid (below_then Bp8.out hbp13 Bp8.out.size)
    clear hop12 hbp13
    go_wp2_with fail
    refine hK.out _ _ trivial (fun ha8=>?_)
    clear hK K
    try simp only [Act.put,lz3,lz4,lz5]
    refine wpAnyH_ready (rs:=[4]) (by kernel_rfl) (by simp) ?_
    refine AllReadyH.cons (o:=?oa9) ?ha9 ?sa9 AllReadyH.nil
    case ha9=>(simp only [lz0,lz1,lz2];rfl)
    case sa9=>
     intro K hK
     refine step_append_src _ rfl (.tmp 3) (.tmp 6) 24 rfl base 5 i0 (.int .u8 0) 1 Tryz.underlying24 hi hz0 hz1 hz2 rfl v Q.length (Q.map byteV) rfl (ownsRow_block HO.out fun g hg=>Bp15.out.block g (HO.out.lt g hg).2) Ap10 pn cp11 ((putF L.flatten).map byteV) rfl HIp14.out.2.1 (u8_one (putF L.flatten)) (by unfold maxLen;omega) (by omega) (by have:=Bp15.out.size;omega) ?_
     intro vp17 up16 hwp18 hgp19 hlp20
     have Gp21:Hid (Kept (fun i=>i=vb∨v.ownBlock=some i) w up16):=Lib.hid ((Kept.below Bp15.out).grown hgp19 (fun k e0=>.inl (.inr e0)))
     have Vp23:=Lib.hid ((HV.out.below Bp15.out HV.out.lt).grown hgp19 (fun e0=>by have:=(HO.out.lt vb e0.symm).1;omega))
     obtain ⟨vp17A,vp17c,rfl⟩:=own_slice hwp18
     have Op22:=Lib.hid hwp18
     clear hwp18 hgp19 hlp20
     refine hK.out _ _ trivial (fun ha10=>?_)
     clear hK K
     try simp only [Act.put,lz3,lz4,lz5]
     refine wpAnyH_ready (rs:=[5]) (by kernel_rfl) (by simp) ?_
     refine AllReadyH.cons (o:=?oa11) ?ha11 ?sa11 AllReadyH.nil
     case ha11=>(simp only [lz0,lz1,lz2];rfl)
     case sa11=>
      intro K hK
      have yp24:=Vp23.out.cell 0
      have zp25:=Vp23.out.frozen 0
      simp only [lz0,lz1,lz2] at yp24
      go_simp
      clear yp24 zp25
      refine hK.out _ _ trivial (fun ha12=>?_)
      clear hK K
      try simp only [Act.put,lz3,lz4,lz5]
      refine wpAnyH_done (by kernel_rfl) ?_ _
      go_wp2
      go_end0
      exact ⟨rfl,(HFIN.out up16 (.slice vp17A (Q.length+pn) vp17c) Op22.out Vp23.out Gp21.out)⟩
 case sa3=>
  intro K hK
  go_simp
  refine (kConcat_any u0 A k c L (HRS.out.below HB0.out) (by rw [← HZN.out];exact h0) (by rw [← HZN.out];exact hz) hk).mono ?_
  rintro e up26 ⟨vc,rfl,hop29,hbp30⟩
  rw [← HZN.out] at hop29
  obtain ⟨Ap27,cp28,rfl⟩:=own_slice hop29
  have HIp31:Hid (BytesIn up26 Ap27 zn L.flatten):=Lib.hid (BytesIn.own hop29 (by unfold maxLen;omega))
  have Bp32:=Lib.hid (below_then HB0.out hbp30 HB0.out.size)
  clear hop29 hbp30
  go_wp2_with fail
  refine hK.out _ _ trivial (fun ha13=>?_)
  clear hK K
  try simp only [Act.put,lz3,lz4,lz5]
  refine wpAnyH_ready (rs:=[0,3]) (by kernel_rfl) (by simp) ?_
  refine AllReadyH.cons (o:=?oa14) ?ha14 ?sa14 (AllReadyH.cons (o:=?oa15) ?ha15 ?sa15 AllReadyH.nil)
  case ha14=>(simp only [lz0,lz1,lz2];rfl)
  case ha15=>(simp only [lz0,lz1,lz2];rfl)
  case sa14=>
   intro K hK
   have yp33:=(HV.out.below Bp32.out HV.out.lt).cell 0
   simp only [lz0,lz1,lz2] at yp33
   go_simp
   clear yp33
   refine hK.out _ _ trivial (fun ha16=>?_)
   clear hK K
   try simp only [Act.put,lz3,lz4,lz5]
   refine wpAnyH_ready (rs:=[3]) (by kernel_rfl) (by simp) ?_
   refine AllReadyH.cons (o:=?oa17) ?ha17 ?sa17 AllReadyH.nil
   case ha17=>(simp only [lz0,lz1,lz2];rfl)
   case sa17=>
    intro K hK
    go_simp
    refine (fPut_any up26 Ap27 zn cp28 L.flatten HIp31.out (by omega)).mono ?_
    rintro e up34 ⟨vc,rfl,hop37,hbp38⟩
    rw [← HPN.out] at hop37
    obtain ⟨Ap35,cp36,rfl⟩:=own_slice hop37
    have HIp39:Hid (BytesIn up34 Ap35 pn (putF L.flatten)):=Lib.hid (BytesIn.own hop37 (by unfold maxLen;omega))
    have Bp40:=Lib.hid (below_then Bp32.out hbp38 Bp32.out.size)
    clear hop37 hbp38
    go_wp2_with fail
    refine hK.out _ _ trivial (fun ha18=>?_)
    clear hK K
    try simp only [Act.put,lz3,lz4,lz5]
    refine wpAnyH_ready (rs:=[4]) (by kernel_rfl) (by simp) ?_
    refine AllReadyH.cons (o:=?oa19) ?ha19 ?sa19 AllReadyH.nil
    case ha19=>(simp only [lz0,lz1,lz2];rfl)
    case sa19=>
     intro K hK
     refine step_append_src _ rfl (.tmp 3) (.tmp 6) 24 rfl base 5 i0 (.int .u8 0) 1 Tryz.underlying24 hi hz0 hz1 hz2 rfl v Q.length (Q.map byteV) rfl (ownsRow_block HO.out fun g hg=>Bp40.out.block g (HO.out.lt g hg).2) Ap35 pn cp36 ((putF L.flatten).map byteV) rfl HIp39.out.2.1 (u8_one (putF L.flatten)) (by unfold maxLen;omega) (by omega) (by have:=Bp40.out.size;omega) ?_
     intro vp42 up41 hwp43 hgp44 hlp45
     have Gp46:Hid (Kept (fun i=>i=vb∨v.ownBlock=some i) w up41):=Lib.hid ((Kept.below Bp40.out).grown hgp44 (fun k e0=>.inl (.inr e0)))
     have Vp48:=Lib.hid ((HV.out.below Bp40.out HV.out.lt).grown hgp44 (fun e0=>by have:=(HO.out.lt vb e0.symm).1;omega))
     obtain ⟨vp42A,vp42c,rfl⟩:=own_slice hwp43
     have Op47:=Lib.hid hwp43
     clear hwp43 hgp44 hlp45
     refine hK.out _ _ trivial (fun ha20=>?_)
     clear hK K
     try simp only [Act.put,lz3,lz4,lz5]
     refine wpAnyH_ready (rs:=[5]) (by kernel_rfl) (by simp) ?_
     refine AllReadyH.cons (o:=?oa21) ?ha21 ?sa21 AllReadyH.nil
     case ha21=>(simp only [lz0,lz1,lz2];rfl)
     case sa21=>
      intro K hK
      have yp49:=Vp48.out.cell 0
      have zp50:=Vp48.out.frozen 0
      simp only [lz0,lz1,lz2] at yp49
      go_simp
      clear yp49 zp50
      refine hK.out _ _ trivial (fun ha22=>?_)
      clear hK K
      try simp only [Act.put,lz3,lz4,lz5]
      refine wpAnyH_done (by kernel_rfl) ?_ _
      go_wp2
      go_end0
      exact ⟨rfl,(HFIN.out up41 (.slice vp42A (Q.length+pn) vp42c) Op47.out Vp48.out Gp46.out)⟩
  case sa15=>
   intro K hK
   go_simp
   refine (fPut_any up26 Ap27 zn cp28 L.flatten HIp31.out (by omega)).mono ?_
   rintro e up51 ⟨vc,rfl,hop54,hbp55⟩
   rw [← HPN.out] at hop54
   obtain ⟨Ap52,cp53,rfl⟩:=own_slice hop54
   have HIp56:Hid (BytesIn up51 Ap52 pn (putF L.flatten)):=Lib.hid (BytesIn.own hop54 (by unfold maxLen;omega))
   have Bp57:=Lib.hid (below_then Bp32.out hbp55 Bp32.out.size)
   clear hop54 hbp55
   go_wp2_with fail
   refine hK.out _ _ trivial (fun ha23=>?_)
   clear hK K
   try simp only [Act.put,lz3,lz4,lz5]
   refine wpAnyH_ready (rs:=[0]) (by kernel_rfl) (by simp) ?_
   refine AllReadyH.cons (o:=?oa24) ?ha24 ?sa24 AllReadyH.nil
   case ha24=>(simp only [lz0,lz1,lz2];rfl)
   case sa24=>
    intro K hK
    have yp58:=(HV.out.below Bp57.out HV.out.lt).cell 0
    simp only [lz0,lz1,lz2] at yp58
    go_simp
    clear yp58
    refine hK.out _ _ trivial (fun ha25=>?_)
    clear hK K
    try simp only [Act.put,lz3,lz4,lz5]
    refine wpAnyH_ready (rs:=[4]) (by kernel_rfl) (by simp) ?_
    refine AllReadyH.cons (o:=?oa26) ?ha26 ?sa26 AllReadyH.nil
    case ha26=>(simp only [lz0,lz1,lz2];rfl)
    case sa26=>
     intro K hK
     refine step_append_src _ rfl (.tmp 3) (.tmp 6) 24 rfl base 5 i0 (.int .u8 0) 1 Tryz.underlying24 hi hz0 hz1 hz2 rfl v Q.length (Q.map byteV) rfl (ownsRow_block HO.out fun g hg=>Bp57.out.block g (HO.out.lt g hg).2) Ap52 pn cp53 ((putF L.flatten).map byteV) rfl HIp56.out.2.1 (u8_one (putF L.flatten)) (by unfold maxLen;omega) (by omega) (by have:=Bp57.out.size;omega) ?_
     intro vp60 up59 hwp61 hgp62 hlp63
     have Gp64:Hid (Kept (fun i=>i=vb∨v.ownBlock=some i) w up59):=Lib.hid ((Kept.below Bp57.out).grown hgp62 (fun k e0=>.inl (.inr e0)))
     have Vp66:=Lib.hid ((HV.out.below Bp57.out HV.out.lt).grown hgp62 (fun e0=>by have:=(HO.out.lt vb e0.symm).1;omega))
     obtain ⟨vp60A,vp60c,rfl⟩:=own_slice hwp61
     have Op65:=Lib.hid hwp61
     clear hwp61 hgp62 hlp63
     refine hK.out _ _ trivial (fun ha27=>?_)
     clear hK K
     try simp only [Act.put,lz3,lz4,lz5]
     refine wpAnyH_ready (rs:=[5]) (by kernel_rfl) (by simp) ?_
     refine AllReadyH.cons (o:=?oa28) ?ha28 ?sa28 AllReadyH.nil
     case ha28=>(simp only [lz0,lz1,lz2];rfl)
     case sa28=>
      intro K hK
      have yp67:=Vp66.out.cell 0
      have zp68:=Vp66.out.frozen 0
      simp only [lz0,lz1,lz2] at yp67
      go_simp
      clear yp67 zp68
      refine hK.out _ _ trivial (fun ha29=>?_)
      clear hK K
      try simp only [Act.put,lz3,lz4,lz5]
      refine wpAnyH_done (by kernel_rfl) ?_ _
      go_wp2
      go_end0
      exact ⟨rfl,(HFIN.out up59 (.slice vp60A (Q.length+pn) vp60c) Op65.out Vp66.out Gp64.out)⟩
end Go.Proofs.YthcjikpabpgpfaaGreat
