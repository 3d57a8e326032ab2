import Derived.Test.YthcjikpabpgpfaaGreatZp0
import Derived.Test.YthcjikpabpgpfaaGreatZp47
import Derived.Test.YthcjikpabpgpfaaGreatZp32
import Derived.Test.YthcjikpabpgpfaaGreatZp38
import Derived.Deep.RegionHeld3
import Derived.Deep.DeepCutAuto
import Derived.Deep.QuietTactic
import Derived.BigQuiet
set_option linter.unusedSimpArgs false
set_option maxHeartbeats 16000000
set_option maxRecDepth 100000
namespace Go.Proofs.YthcjikpabpgpfaaGreat
open Go.RowKit Go.Maps Go.WideMaps
theorem bytes_nil (w:World):BytesIn w none 0 []:=⟨by unfold maxLen;omega,⟨rfl,(fun ad e=>by cases e),fun _=>rfl⟩,fun ad e=>by cases e⟩
theorem pairs_nil (w:World):PairsIn w none 0 []:=⟨rfl,by unfold maxLen;omega,by simp,fun _=>rfl,fun ad e=>by cases e⟩
theorem made33z (w:World):(Instr.makeSlice 24 (.int .i64 33) (.int .i64 33)).run Tryz.prog w=.ok (.slice (some ⟨w.heap.size,0,none⟩) 33 33) (w.alloc (.cells ((List.replicate 33 (0:UInt8)).map byteV).toArray 5)):=by kernel_rfl
theorem docs_to (w:World) (A:Option Addr) (n c p:Nat) (h:p≤c):(Instr.slice 23 (.slice A n c) none (some (.int .i64 p)) none).run Tryz.prog w=.ok (.slice A p c) w:=by
 obtain ⟨i0,hi,hz0,hz1,hz2⟩:=info_parts docInfoL
 rw [run_slice_h (P:=Tryz.prog) (w:=w) 23 A n c Tryz.underlying23 .i64 p (by omega) (by omega)]
 have he:Tryz.prog.elem 23=49:=by kernel_rfl
 rw [he]
 have hs:(sizeOf 49).run Tryz.prog w=Result.ok i0.size w:=by
  rw [run_sizeOf w hi]
  unfold Program.cellsOf
  rw [hi]
  rfl
 rw [hs]
 simp [Result.andThen,sliced,Addr.add]
theorem z33_str {w:World} {g:Nat} (h:Blk w g 5 ((List.replicate 33 (0:UInt8)).map byteV).toArray):(convert 24 9 (.slice (some ⟨g,0,none⟩) 33 33)).run Tryz.prog w=.ok (.string ⟨(List.replicate 33 (0:UInt8)).toArray⟩) w:=by
 refine str_of (n:=33) ⟨by unfold maxLen;omega,⟨by simp,fun ad e j u hu=>?_,fun e=>by cases e⟩,fun ad e _=>by cases e;exact h.lt⟩ 33
 cases e
 rw [zero_add,h.cell]
 simpa using hu
theorem segKeys_any {S:SegSt} {K:World→(Nat→Prop)→Nat→CSt→Prop} (hS:SegOk S K) (hK:CurW K) (W:World) (D:Option Addr) (n c:Nat) (l:List (Nm×Nm)) (hd:DocsIn W D n l) (hnc:n≤c) (at_:Nat) (hat:at_ < 256):
  Calls Tryz.prog 8 #[.slice D n c,.int .u8 at_] W fun e w'=>e=.returned (.bool true)∧Below W.heap.size W w':=by
 obtain ⟨i0,hi,hz0,hz1,hz2⟩:=info_parts docInfoL
 have HD:=Lib.hid hd
 have HNC:=Lib.hid hnc
 have hlen:=hd.len
 have HLEN:=Lib.hid hlen
 have HVL:=Lib.hid hd.vals
 obtain ⟨V1,hV1⟩:∃ V,ofV []=V:=⟨_,rfl⟩
 have HO1:Hid (VOk V1):=Lib.hid (hV1 ▸ ofV_ok [])
 have HV1:=Lib.hid hV1
 obtain ⟨zz33,hzz33⟩:∃ z,z=((List.replicate 33 (0:UInt8)).map byteV).toArray:=⟨_,rfl⟩
 obtain ⟨z33,hz33⟩:∃ z,z=List.replicate 33 (0:UInt8):=⟨_,rfl⟩
 have HMK:Hid (∀ w,(Instr.makeSlice 24 (.int .i64 33) (.int .i64 33)).run Tryz.prog w=.ok (.slice (some ⟨w.heap.size,0,none⟩) 33 33) (w.alloc (.cells zz33 5))):=Lib.hid (fun w=>by rw [hzz33];exact made33z w)
 have HZZ:=Lib.hid hzz33
 have HZ33:=Lib.hid hz33
 have HZL:Hid (z33.length=33):=Lib.hid (by rw [hz33];simp)
 clear hzz33 hz33
 clear hd hnc hV1 hlen
 have HSO:=Lib.hid hS
 have HCO:=Lib.hid hK
 have HH:=Lib.hid (sgHead_any hS hK W)
 clear hS hK
 go_enter Tryz.func8,Tryz.ntmps8
 go_wp2_with fail
 refine HH.out.mono ?_
 rintro e w1 ⟨rfl,hb1⟩
 have HB1:=Lib.hid hb1
 have HG:=Lib.hid (sgGreat_any w1 none D 0 0 n c l (by omega) (HD.out.below HB1.out))
 clear hb1 HH
 go_wp2_with fail
 refine HG.out.mono ?_
 rintro e w2 ⟨r,rfl,⟨q2,hw2⟩,hr⟩
 have HB:Hid (Below W.heap.size W w2):=Lib.hid (by rw [hw2];exact below_drewN HB1.out q2)
 clear hw2 HG HB1
 cases r with
 | true=>
  clear hr
  go_wp2
  go_ret
  exact ⟨rfl,HB.out⟩
 | false=>
 have HSM:=Lib.hid (hr rfl)
 clear hr
 by_cases hn0:n=0
 ·have e0:((n:Int)==0)=true:=by simp;omega
  clear hn0
  go_wp2
  go_ret
  exact ⟨rfl,HB.out⟩
 have e0:((n:Int)==0)=false:=by simp;omega
 have hn0z:¬ (n:Int)=0:=by omega
 by_cases hn64:64≤n
 ·have e1:decide ((64:Int)≤(n:Int))=true:=by simp;omega
  go_wp2
  go_ret
  exact ⟨rfl,HB.out⟩
 have e1:decide ((64:Int)≤(n:Int))=false:=by simp;omega
 have e1':¬ (64:Int)≤(n:Int):=by omega
 by_cases hR:docsR l
 ·have HR:=Lib.hid hR
  have HLE1:Hid ((segB V1 l).length≤1000000):=Lib.hid (segB_le HO1.out hR (by have:=HSM.out.2.text;omega))
  clear hR
  go_wp2_with fail
  refine (of_is w2 none 0 0 _ (pairs_nil _) (by omega) (by omega) HV1.out).mono ?_
  rintro e x1 ⟨A1,B1,n1,m1,ca1,cb1,rfl,hsee,hb⟩
  replace HB:=Lib.hid (below_then HB.out hb HB.out.size)
  have HE1:=Lib.hid hsee
  clear hb hsee
  go_wp2_with fail
  refine (new_is x1 A1 B1 n1 m1 ca1 cb1 V1 HE1.out HO1.out).mono ?_
  rintro e y1 ⟨b1,rfl,hb,hC⟩
  replace HB:=Lib.hid (below_then HB.out hb HB.out.size)
  have HC1:=Lib.hid hC
  clear hb hC HE1
  have HU1:=Lib.hid (HSO.out.build HC1.out HO1.out D n c l (HD.out.below HB.out) HNC.out (by have:=HSM.out.2.text;omega))
  go_wp2_with fail
  refine HU1.out.mono ?_
  intro e z1 hso
  obtain ⟨k1,hk⟩:∃ k,(segB V1 l).length=k:=⟨_,rfl⟩
  obtain ⟨S1,cs1,rfl,hby,hcc,hb⟩:=hso.yes HR.out (by have:=HLE1.out;omega) hk
  have hkl1:k1≤1000000:=by rw [← hk];exact HLE1.out
  have HK1:=Lib.hid hk
  replace HB:=Lib.hid (below_then HB.out hb HB.out.size)
  replace HC1:=Lib.hid (HC1.out.below hb)
  have HBY1:=Lib.hid hby
  have HCC1:=Lib.hid hcc
  clear hso hby hcc hb hk HU1
  obtain ⟨k,hk'⟩:∃ k,k=at_ % n:=⟨_,rfl⟩
  have hkn:k < n:=by rw [hk'];exact Nat.mod_lt at_ (by omega)
  have hkz:(at_:Int) % (n:Int)=(k:Int):=by rw [hk'];simp
  have p0:(0:Int)≤(k:Int):=by omega
  have p1:(k:Int) < (n:Int):=by omega
  have HDZ:=Lib.hid (HD.out.below HB.out)
  obtain ⟨pd,pr,rfl,hpr,a0,-,hvk,-⟩:=HDZ.out.at k hkn
  obtain ⟨xk,xt⟩:=pr
  simp only at a0 hvk
  have HA0:=Lib.hid a0
  have HPR:=Lib.hid hpr
  have HKX:Hid ((xk,([]:Nm)).1.length≤maxLen∧(xk,([]:Nm)).2.length≤maxLen):=Lib.hid ⟨hvk,by unfold maxLen;simp⟩
  clear hk' hpr hvk a0
  go_upto_region 9 with fail
  rw [hkz]
  clear hkz
  go_cut [10] (fun v wx=>More1 z1 n l (xk,[]) v wx)
  case first=>
   refine wp_region_held_drew (S:=fun w'=>w'.cell? (pd.add (k * 2))=some (.string ⟨xk.toArray⟩)) (by kernel_rfl) HA0.out (fun hHeld=>?_)
   obtain ⟨v0,hv0⟩:∃ zz,zz=z1.drew:=⟨_,rfl⟩
   rw [← hv0] at hHeld ⊢
   have HV0:Hid (Below z1.heap.size z1 v0):=Lib.hid (by rw [hv0];exact (Below.refl _ _).drew)
   have hS0:=below_cells HV0.out HA0.out
   clear hv0
   refine wpAnyH_take (i:=1) (oi:=?oip11) (v:=?vp11) ?hip11 (by kernel_rfl) (by kernel_rfl) (by kernel_rfl) ?hQp11 (Or.inl ⟨?hwp11,?hyp11⟩) (by assumption) ?restp11
   case hip11=>(first | (simp only [lz0,lz1,lz2];rfl) | rfl)
   case hQp11=>exact fun _ _ _ h=>h
   case hwp11=>rfl
   case hyp11=>((intro w hSw;go_simp);first | done | with_reducible rfl)
   try simp only [Act.put,lz3,lz4,lz5]
   refine wpAnyH_take (i:=3) (oi:=?oip23) (v:=?vp23) ?hip23 (by kernel_rfl) (by kernel_rfl) (by kernel_rfl) ?hQp23 (Or.inl ⟨?hwp23,?hyp23⟩) (by assumption) ?restp23
   case hip23=>(first | (simp only [lz0,lz1,lz2];rfl) | rfl)
   case hQp23=>exact fun _ _ _ h=>h
   case hwp23=>rfl
   case hyp23=>((intro w hSw;go_simp);first | done | with_reducible rfl)
   try simp only [Act.put,lz3,lz4,lz5]
   refine wpAnyH_take (i:=4) (oi:=?oip34) (v:=?vp34) ?hip34 (by kernel_rfl) (by kernel_rfl) (by kernel_rfl) ?hQp34 (Or.inl ⟨?hwp34,?hyp34⟩) (by assumption) ?restp34
   case hip34=>(first | (simp only [lz0,lz1,lz2];rfl) | rfl)
   case hQp34=>exact fun _ _ _ h=>h
   case hwp34=>rfl
   case hyp34=>((intro w hSw;go_simp);first | done | with_reducible rfl)
   try simp only [Act.put,lz3,lz4,lz5]
   refine wpAnyH_take (i:=5) (oi:=?oip45) (v:=?vp45) ?hip45 (by kernel_rfl) (by kernel_rfl) (by kernel_rfl) ?hQp45 (Or.inl ⟨?hwp45,?hyp45⟩) (by assumption) ?restp45
   case hip45=>(first | (simp only [lz0,lz1,lz2];rfl) | rfl)
   case hQp45=>exact fun _ _ _ h=>h
   case hwp45=>rfl
   case hyp45=>((intro w hSw;go_simp);first | done | with_reducible rfl)
   try simp only [Act.put,lz3,lz4,lz5]
   refine wpAnyH_take (i:=6) (oi:=?oip56) (v:=?vp56) ?hip56 (by kernel_rfl) (by kernel_rfl) (by kernel_rfl) ?hQp56 (Or.inl ⟨?hwp56,?hyp56⟩) (by assumption) ?restp56
   case hip56=>(first | (simp only [lz0,lz1,lz2];rfl) | rfl)
   case hQp56=>exact fun _ _ _ h=>h
   case hwp56=>rfl
   case hyp56=>((intro w hSw;go_simp);first | done | with_reducible rfl)
   try simp only [Act.put,lz3,lz4,lz5]
   refine wpAnyH_take (i:=7) (oi:=?oip67) (v:=?vp67) ?hip67 (by kernel_rfl) (by kernel_rfl) (by kernel_rfl) ?hQp67 (Or.inl ⟨?hwp67,?hyp67⟩) (by assumption) ?restp67
   case hip67=>(first | (simp only [lz0,lz1,lz2];rfl) | rfl)
   case hQp67=>exact fun _ _ _ h=>h
   case hwp67=>rfl
   case hyp67=>((intro w hSw;go_simp);first | done | with_reducible rfl)
   try simp only [Act.put,lz3,lz4,lz5]
   refine wpAnyH_take (i:=8) (oi:=?oip78) (v:=?vp78) ?hip78 (by kernel_rfl) (by kernel_rfl) (by kernel_rfl) ?hQp78 (Or.inl ⟨?hwp78,?hyp78⟩) (by assumption) ?restp78
   case hip78=>(first | (simp only [lz0,lz1,lz2];rfl) | rfl)
   case hQp78=>exact fun _ _ _ h=>h
   case hwp78=>rfl
   case hyp78=>((intro w hSw;go_simp);first | done | with_reducible rfl)
   try simp only [Act.put,lz3,lz4,lz5]
   refine wpAnyH_ready (rs:=[0,9]) (by kernel_rfl) (by simp) ?_
   refine AllReadyH.cons (o:=?op8) ?hp8 ?sp8 (AllReadyH.cons (o:=?op9) ?hp9 ?sp9 AllReadyH.nil)
   case hp8=>(simp only [lz0,lz1,lz2];rfl)
   case hp9=>(simp only [lz0,lz1,lz2];rfl)
   case sp8=>
    intro K hK
    go_simp
    obtain ⟨uq1,huq2⟩:∃ zz,zz=v0.alloc (.cells #[] 49):=⟨_,rfl⟩
    rw [← huq2]
    have hbq3:Below v0.heap.size v0 uq1:=by rw [huq2];exact (Below.refl _ v0).alloc (Nat.le_refl _) _
    have Bq4:=Lib.hid (below_then HV0.out hbq3 HV0.out.size)
    have Eq5:Hid (World.ownsRow uq1 z1.heap.size 49 2 (.slice (some ⟨v0.heap.size,0,none⟩) 0 0) 0 []):=Lib.hid (by rw [huq2];exact World.ownsRow_made v0 #[] 0 HV0.out.size (Nat.zero_le _) rfl)
    clear huq2 hbq3
    refine hK.out _ _ (below_cells Bq4.out HA0.out) (fun hp10=>?_)
    clear hK K
    try simp only [Act.put,lz3,lz4,lz5]
    refine wpAnyH_ready (rs:=[2,9]) (by kernel_rfl) (by simp) ?_
    refine AllReadyH.cons (o:=?op11) ?hp11 ?sp11 (AllReadyH.cons (o:=?op12) ?hp12 ?sp12 AllReadyH.nil)
    case hp11=>(simp only [lz0,lz1,lz2];rfl)
    case hp12=>(simp only [lz0,lz1,lz2];rfl)
    case sp11=>
     intro K hK
     refine step_append_recK _ rfl (.tmp 57) (.tmp 58) 23 rfl z1.heap.size 49 i0 _ 2 32 Tryz.underlying23 hi hz0 hz1 hz2 rfl (by decide) _ 0 [] rfl Eq5.out pd n c (l.flatMap docVs) rfl (by rw [docs_len2,HLEN.out]) (docs_src (HDZ.out.below Bq4.out)) (docs_ones l) (by unfold maxLen;omega) (by omega) Bq4.out.size ?_
     intro vq10 uq6 hwq7 hgq8 hlq9
     rw [Nat.zero_add,List.nil_append] at hwq7
     have hbq11:Hid (Below z1.heap.size z1 uq6):=Lib.hid (Bq4.out.grown hgq8 Bq4.out.size (fun g hg=>(World.ownsRow.lt Eq5.out g hg).1))
     obtain ⟨Avq10,cvq10,rfl⟩:=own_slice hwq7
     have Oq12:=Lib.hid hwq7
     clear hwq7 hgq8 hlq9
     refine hK.out _ _ (below_cells hbq11.out HA0.out) (fun hp13=>?_)
     clear hK K
     try simp only [Act.put,lz3,lz4,lz5]
     refine wpAnyH_ready (rs:=[9]) (by kernel_rfl) (by simp) ?_
     refine AllReadyH.cons (o:=?op14) ?hp14 ?sp14 AllReadyH.nil
     case hp14=>(simp only [lz0,lz1,lz2];rfl)
     case sp14=>
      intro K hK
      go_simp
      obtain ⟨uq13,huq14⟩:∃ zz,zz=uq6.alloc (.cells #[.string ⟨(xk:Nm).toArray⟩,.string ⟨([]:Nm).toArray⟩] 49):=⟨_,rfl⟩
      try rw [← huq14]
      try rw [show uq6.alloc (.cells #[.string ⟨(xk:Nm).toArray⟩,.string ⟨#[]⟩] 49)=uq13 from huq14.symm]
      have hbq15:Below uq6.heap.size uq6 uq13:=by rw [huq14];exact (Below.refl _ uq6).alloc (Nat.le_refl _) _
      have Bq17:=Lib.hid (below_then hbq11.out hbq15 hbq11.out.size)
      have Oq18:=Lib.hid (ownsRow_block Oq12.out (fun g hg=>hbq15.block g (World.ownsRow.lt Oq12.out g hg).2))
      have Mq16:Hid (Blk uq13 uq6.heap.size 49 #[.string ⟨(xk:Nm).toArray⟩,.string ⟨([]:Nm).toArray⟩]):=Lib.hid (by rw [huq14];exact Blk.new _ _ _)
      clear huq14 hbq15
      refine hK.out _ _ (below_cells Bq17.out HA0.out) (fun hp15=>?_)
      clear hK K
      try simp only [Act.put,lz3,lz4,lz5]
      refine wpAnyH_ready (rs:=[10]) (by kernel_rfl) (by simp) ?_
      refine AllReadyH.cons (o:=?op16) ?hp16 ?sp16 AllReadyH.nil
      case hp16=>(simp only [lz0,lz1,lz2];rfl)
      case sp16=>
       intro K hK
       refine step_append_recK _ rfl (.tmp 59) (.tmp 66) 23 rfl z1.heap.size 49 i0 _ 2 32 Tryz.underlying23 hi hz0 hz1 hz2 rfl (by decide) _ n (l.flatMap docVs) rfl Oq18.out ⟨uq6.heap.size,0,none⟩ 1 1 (docVs (xk,[])) rfl rfl (docs_cells1 Mq16.out) (docs_one1 _) (by unfold maxLen;omega) (by omega) Bq17.out.size ?_
       intro vq23 uq19 hwq20 hgq21 hlq22
       have hbq24:Hid (Below z1.heap.size z1 uq19):=Lib.hid (Bq17.out.grown hgq21 Bq17.out.size (fun g hg=>(World.ownsRow.lt Oq18.out g hg).1))
       have MOq25:=Lib.hid (More1.of (p:=(xk,[])) hwq20 HLEN.out (by omega) HVL.out HKX.out hbq24.out)
       clear hwq20 hgq21 hlq22
       refine hK.out _ _ (below_cells hbq24.out HA0.out) (fun hp17=>?_)
       clear hK K
       try simp only [Act.put,lz3,lz4,lz5]
       refine wpAnyH_take (i:=11) (oi:=?oip1811) (v:=?vp1811) ?hip1811 (by kernel_rfl) (by kernel_rfl) (by kernel_rfl) ?hQp1811 (Or.inl ⟨?hwp1811,?hyp1811⟩) (by assumption) ?restp1811
       case hip1811=>(first | (simp only [lz0,lz1,lz2];rfl) | rfl)
       case hQp1811=>exact fun _ _ _ h=>h
       case hwp1811=>rfl
       case hyp1811=>((intro w hSw;go_simp);first | done | with_reducible rfl)
       try simp only [Act.put,lz3,lz4,lz5]
       refine wpAnyH_done (by kernel_rfl) ?_ _
       go_wp2_with fail
       go_meet
       case rel=>exact MOq25.out
    case sp12=>
     intro K hK
     go_simp
     obtain ⟨uq26,huq27⟩:∃ zz,zz=uq1.alloc (.cells #[.string ⟨(xk:Nm).toArray⟩,.string ⟨([]:Nm).toArray⟩] 49):=⟨_,rfl⟩
     try rw [← huq27]
     try rw [show uq1.alloc (.cells #[.string ⟨(xk:Nm).toArray⟩,.string ⟨#[]⟩] 49)=uq26 from huq27.symm]
     have hbq28:Below uq1.heap.size uq1 uq26:=by rw [huq27];exact (Below.refl _ uq1).alloc (Nat.le_refl _) _
     have Bq30:=Lib.hid (below_then Bq4.out hbq28 Bq4.out.size)
     have Eq31:=Lib.hid (ownsRow_block Eq5.out (fun g hg=>hbq28.block g (World.ownsRow.lt Eq5.out g hg).2))
     have Mq29:Hid (Blk uq26 uq1.heap.size 49 #[.string ⟨(xk:Nm).toArray⟩,.string ⟨([]:Nm).toArray⟩]):=Lib.hid (by rw [huq27];exact Blk.new _ _ _)
     clear huq27 hbq28
     have NEq32:Hid (v0.heap.size≠uq1.heap.size):=Lib.hid (by have h9:v0.heap.size < uq1.heap.size:=(World.ownsRow.lt Eq5.out _ rfl).2;omega)
     refine hK.out _ _ (below_cells Bq30.out HA0.out) (fun hp19=>?_)
     clear hK K
     try simp only [Act.put,lz3,lz4,lz5]
     refine wpAnyH_ready (rs:=[2]) (by kernel_rfl) (by simp) ?_
     refine AllReadyH.cons (o:=?op20) ?hp20 ?sp20 AllReadyH.nil
     case hp20=>(simp only [lz0,lz1,lz2];rfl)
     case sp20=>
      intro K hK
      refine step_append_recK _ rfl (.tmp 57) (.tmp 58) 23 rfl z1.heap.size 49 i0 _ 2 32 Tryz.underlying23 hi hz0 hz1 hz2 rfl (by decide) _ 0 [] rfl Eq31.out pd n c (l.flatMap docVs) rfl (by rw [docs_len2,HLEN.out]) (docs_src (HDZ.out.below Bq30.out)) (docs_ones l) (by unfold maxLen;omega) (by omega) Bq30.out.size ?_
      intro vq37 uq33 hwq34 hgq35 hlq36
      rw [Nat.zero_add,List.nil_append] at hwq34
      have hbq38:Hid (Below z1.heap.size z1 uq33):=Lib.hid (Bq30.out.grown hgq35 Bq30.out.size (fun g hg=>(World.ownsRow.lt Eq31.out g hg).1))
      have Mq40:=Lib.hid (Mq29.out.grown hgq35 (fun e0=>NEq32.out (Option.some.inj e0).symm))
      obtain ⟨Avq37,cvq37,rfl⟩:=own_slice hwq34
      have Oq39:=Lib.hid hwq34
      clear hwq34 hgq35 hlq36
      refine hK.out _ _ (below_cells hbq38.out HA0.out) (fun hp21=>?_)
      clear hK K
      try simp only [Act.put,lz3,lz4,lz5]
      refine wpAnyH_ready (rs:=[10]) (by kernel_rfl) (by simp) ?_
      refine AllReadyH.cons (o:=?op22) ?hp22 ?sp22 AllReadyH.nil
      case hp22=>(simp only [lz0,lz1,lz2];rfl)
      case sp22=>
       intro K hK
       refine step_append_recK _ rfl (.tmp 59) (.tmp 66) 23 rfl z1.heap.size 49 i0 _ 2 32 Tryz.underlying23 hi hz0 hz1 hz2 rfl (by decide) _ n (l.flatMap docVs) rfl Oq39.out ⟨uq1.heap.size,0,none⟩ 1 1 (docVs (xk,[])) rfl rfl (docs_cells1 Mq40.out) (docs_one1 _) (by unfold maxLen;omega) (by omega) hbq38.out.size ?_
       intro vq45 uq41 hwq42 hgq43 hlq44
       have hbq46:Hid (Below z1.heap.size z1 uq41):=Lib.hid (hbq38.out.grown hgq43 hbq38.out.size (fun g hg=>(World.ownsRow.lt Oq39.out g hg).1))
       have MOq47:=Lib.hid (More1.of (p:=(xk,[])) hwq42 HLEN.out (by omega) HVL.out HKX.out hbq46.out)
       clear hwq42 hgq43 hlq44
       refine hK.out _ _ (below_cells hbq46.out HA0.out) (fun hp23=>?_)
       clear hK K
       try simp only [Act.put,lz3,lz4,lz5]
       refine wpAnyH_take (i:=11) (oi:=?oip2411) (v:=?vp2411) ?hip2411 (by kernel_rfl) (by kernel_rfl) (by kernel_rfl) ?hQp2411 (Or.inl ⟨?hwp2411,?hyp2411⟩) (by assumption) ?restp2411
       case hip2411=>(first | (simp only [lz0,lz1,lz2];rfl) | rfl)
       case hQp2411=>exact fun _ _ _ h=>h
       case hwp2411=>rfl
       case hyp2411=>((intro w hSw;go_simp);first | done | with_reducible rfl)
       try simp only [Act.put,lz3,lz4,lz5]
       refine wpAnyH_done (by kernel_rfl) ?_ _
       go_wp2_with fail
       go_meet
       case rel=>exact MOq47.out
   case sp9=>
    intro K hK
    go_simp
    obtain ⟨uq48,huq49⟩:∃ zz,zz=v0.alloc (.cells #[.string ⟨(xk:Nm).toArray⟩,.string ⟨([]:Nm).toArray⟩] 49):=⟨_,rfl⟩
    try rw [← huq49]
    try rw [show v0.alloc (.cells #[.string ⟨(xk:Nm).toArray⟩,.string ⟨#[]⟩] 49)=uq48 from huq49.symm]
    have hbq50:Below v0.heap.size v0 uq48:=by rw [huq49];exact (Below.refl _ v0).alloc (Nat.le_refl _) _
    have Bq52:=Lib.hid (below_then HV0.out hbq50 HV0.out.size)
    have Mq51:Hid (Blk uq48 v0.heap.size 49 #[.string ⟨(xk:Nm).toArray⟩,.string ⟨([]:Nm).toArray⟩]):=Lib.hid (by rw [huq49];exact Blk.new _ _ _)
    clear huq49 hbq50
    refine hK.out _ _ (below_cells Bq52.out HA0.out) (fun hp25=>?_)
    clear hK K
    try simp only [Act.put,lz3,lz4,lz5]
    refine wpAnyH_ready (rs:=[0]) (by kernel_rfl) (by simp) ?_
    refine AllReadyH.cons (o:=?op26) ?hp26 ?sp26 AllReadyH.nil
    case hp26=>(simp only [lz0,lz1,lz2];rfl)
    case sp26=>
     intro K hK
     go_simp
     obtain ⟨uq53,huq54⟩:∃ zz,zz=uq48.alloc (.cells #[] 49):=⟨_,rfl⟩
     rw [← huq54]
     have hbq55:Below uq48.heap.size uq48 uq53:=by rw [huq54];exact (Below.refl _ uq48).alloc (Nat.le_refl _) _
     have Bq56:=Lib.hid (below_then Bq52.out hbq55 Bq52.out.size)
     have Mq57:=Lib.hid (Mq51.out.below hbq55 Mq51.out.lt)
     have Eq58:Hid (World.ownsRow uq53 z1.heap.size 49 2 (.slice (some ⟨uq48.heap.size,0,none⟩) 0 0) 0 []):=Lib.hid (by rw [huq54];exact World.ownsRow_made uq48 #[] 0 Bq52.out.size (Nat.zero_le _) rfl)
     clear huq54 hbq55
     have NEq59:Hid (uq48.heap.size≠v0.heap.size):=Lib.hid (by have:=Mq51.out.lt;omega)
     refine hK.out _ _ (below_cells Bq56.out HA0.out) (fun hp27=>?_)
     clear hK K
     try simp only [Act.put,lz3,lz4,lz5]
     refine wpAnyH_ready (rs:=[2]) (by kernel_rfl) (by simp) ?_
     refine AllReadyH.cons (o:=?op28) ?hp28 ?sp28 AllReadyH.nil
     case hp28=>(simp only [lz0,lz1,lz2];rfl)
     case sp28=>
      intro K hK
      refine step_append_recK _ rfl (.tmp 57) (.tmp 58) 23 rfl z1.heap.size 49 i0 _ 2 32 Tryz.underlying23 hi hz0 hz1 hz2 rfl (by decide) _ 0 [] rfl Eq58.out pd n c (l.flatMap docVs) rfl (by rw [docs_len2,HLEN.out]) (docs_src (HDZ.out.below Bq56.out)) (docs_ones l) (by unfold maxLen;omega) (by omega) Bq56.out.size ?_
      intro vq64 uq60 hwq61 hgq62 hlq63
      rw [Nat.zero_add,List.nil_append] at hwq61
      have hbq65:Hid (Below z1.heap.size z1 uq60):=Lib.hid (Bq56.out.grown hgq62 Bq56.out.size (fun g hg=>(World.ownsRow.lt Eq58.out g hg).1))
      have Mq67:=Lib.hid (Mq57.out.grown hgq62 (fun e0=>NEq59.out (Option.some.inj e0).symm))
      obtain ⟨Avq64,cvq64,rfl⟩:=own_slice hwq61
      have Oq66:=Lib.hid hwq61
      clear hwq61 hgq62 hlq63
      refine hK.out _ _ (below_cells hbq65.out HA0.out) (fun hp29=>?_)
      clear hK K
      try simp only [Act.put,lz3,lz4,lz5]
      refine wpAnyH_ready (rs:=[10]) (by kernel_rfl) (by simp) ?_
      refine AllReadyH.cons (o:=?op30) ?hp30 ?sp30 AllReadyH.nil
      case hp30=>(simp only [lz0,lz1,lz2];rfl)
      case sp30=>
       intro K hK
       refine step_append_recK _ rfl (.tmp 59) (.tmp 66) 23 rfl z1.heap.size 49 i0 _ 2 32 Tryz.underlying23 hi hz0 hz1 hz2 rfl (by decide) _ n (l.flatMap docVs) rfl Oq66.out ⟨v0.heap.size,0,none⟩ 1 1 (docVs (xk,[])) rfl rfl (docs_cells1 Mq67.out) (docs_one1 _) (by unfold maxLen;omega) (by omega) hbq65.out.size ?_
       intro vq72 uq68 hwq69 hgq70 hlq71
       have hbq73:Hid (Below z1.heap.size z1 uq68):=Lib.hid (hbq65.out.grown hgq70 hbq65.out.size (fun g hg=>(World.ownsRow.lt Oq66.out g hg).1))
       have MOq74:=Lib.hid (More1.of (p:=(xk,[])) hwq69 HLEN.out (by omega) HVL.out HKX.out hbq73.out)
       clear hwq69 hgq70 hlq71
       refine hK.out _ _ (below_cells hbq73.out HA0.out) (fun hp31=>?_)
       clear hK K
       try simp only [Act.put,lz3,lz4,lz5]
       refine wpAnyH_take (i:=11) (oi:=?oip3211) (v:=?vp3211) ?hip3211 (by kernel_rfl) (by kernel_rfl) (by kernel_rfl) ?hQp3211 (Or.inl ⟨?hwp3211,?hyp3211⟩) (by assumption) ?restp3211
       case hip3211=>(first | (simp only [lz0,lz1,lz2];rfl) | rfl)
       case hQp3211=>exact fun _ _ _ h=>h
       case hwp3211=>rfl
       case hyp3211=>((intro w hSw;go_simp);first | done | with_reducible rfl)
       try simp only [Act.put,lz3,lz4,lz5]
       refine wpAnyH_done (by kernel_rfl) ?_ _
       go_wp2_with fail
       go_meet
       case rel=>exact MOq74.out
  case rest=>
   obtain ⟨A10,c10,rfl,hc10,hd10,hb10⟩:=hcut
   obtain ⟨wa,hwa⟩:∃ z,z=wc:=⟨_,rfl⟩
   rw [← hwa] at hd10 hb10 ⊢
   have HD10:=Lib.hid hd10
   have HC10:=Lib.hid hc10
   have HBA:=Lib.hid (below_then HB.out hb10 HB.out.size)
   have HCA:=Lib.hid (HC1.out.below hb10)
   have HDA:=Lib.hid (HDZ.out.below hb10)
   clear hd10 hc10 hb10 hwa
   obtain ⟨W1,hW1⟩:∃ z,z=wa.alloc (.cells #[] 49):=⟨_,rfl⟩
   have hb1:Below wa.heap.size wa W1:=by rw [hW1];exact (Below.refl _ _).alloc (Nat.le_refl _) _
   have HE1:Hid (W1.ownsRow wa.heap.size 49 2 (.slice (some ⟨wa.heap.size,0,none⟩) 0 0) 0 []):=Lib.hid (by rw [hW1];exact World.ownsRow_made wa #[] 0 (Nat.le_refl _) (Nat.zero_le _) rfl)
   have HL1:=Lib.hid hb1
   have HW1:=Lib.hid hW1
   clear hb1 hW1
   go_wp2_with (first | (at_builtin;rw [← HW1.out];refine wpList_append_own_at _ ?_ (.tmp 68) (.tmp 69) 23 ?_ wa.heap.size 49 i0 (.agg #[.string ⟨#[]⟩,.string ⟨#[]⟩]) 2 32 Tryz.underlying23 hi hz0 hz1 hz2 ?_ (by decide) (.slice (some ⟨wa.heap.size,0,none⟩) 0 0) 0 [] ?_ HE1.out pd n c (l.flatMap docVs) ?_ (by rw [docs_len2,HLEN.out]) (docs_src (HDA.out.below HL1.out)) (docs_ones l) (by unfold maxLen;omega) (by omega) HL1.out.size ?_;(· rfl);(· rfl);(· rfl);(· rfl);(· rfl);intro v2 w2 hown hgrow _ hloc;rw [Nat.zero_add,List.nil_append] at hown;obtain ⟨A11,c11,rfl⟩:=own_slice hown;have HO2:=Lib.hid hown;have HB2:Hid (Below wa.heap.size wa w2):=Lib.hid (HL1.out.grown hgrow HL1.out.size (fun g hg=>(World.ownsRow.lt HE1.out g hg).1));clear hown hgrow hloc) | (at_builtin;obtain ⟨W3,hW3⟩:∃ z,z=w2.alloc (.cells #[.string ⟨([]:Nm).toArray⟩,.string ⟨([120]:Nm).toArray⟩] 49):=⟨_,rfl⟩;have hb3:Below w2.heap.size w2 W3:=(by rw [hW3];exact (Below.refl _ _).alloc (Nat.le_refl _) _);have HM3:Hid (Blk W3 w2.heap.size 49 #[.string ⟨([]:Nm).toArray⟩,.string ⟨([120]:Nm).toArray⟩]):=Lib.hid (by rw [hW3];exact Blk.new _ _ _);have HO3:=Lib.hid (ownsRow_block HO2.out (fun g hg=>hb3.block g (World.ownsRow.lt HO2.out g hg).2));have HB3:=Lib.hid (below_then HB2.out hb3 HB2.out.size);rw [show w2.alloc (.cells #[.string ⟨#[]⟩,.string ⟨#[120]⟩] 49)=W3 from hW3.symm];clear hb3 hW3;refine wpList_append_own_at _ ?_ (.tmp 70) (.tmp 72) 23 ?_ wa.heap.size 49 i0 (.agg #[.string ⟨#[]⟩,.string ⟨#[]⟩]) 2 32 Tryz.underlying23 hi hz0 hz1 hz2 ?_ (by decide) (.slice A11 n c11) n (l.flatMap docVs) ?_ HO3.out ⟨w2.heap.size,0,none⟩ 1 1 (docVs (([],[120]):Nm×Nm)) ?_ ?_ (docs_cells1 HM3.out) (docs_one1 _) (by unfold maxLen;omega) (by omega) HB3.out.size ?_;(· rfl);(· rfl);(· rfl);(· rfl);(· rfl);(· rfl);intro v4 w4 hown hgrow _ _;have HB4:Hid (Below wa.heap.size wa w4):=Lib.hid (HB3.out.grown hgrow HB3.out.size (fun g hg=>(World.ownsRow.lt HO3.out g hg).1));have HMO:=Lib.hid (More1.of (p:=([],[120])) hown HLEN.out (by omega) HVL.out ⟨by unfold maxLen;simp,by unfold maxLen;simp⟩ HB4.out);obtain ⟨A4,c4,rfl⟩:=own_slice hown;clear hown hgrow))
   obtain ⟨wd,hwd⟩:∃ z,z=w4:=⟨_,rfl⟩
   have HBD:=Lib.hid (below_then HBA.out HB4.out HBA.out.size)
   have HCD:=Lib.hid (HCA.out.below HB4.out)
   have HDD:=Lib.hid (HDA.out.below HB4.out)
   have HD10D:=Lib.hid (HD10.out.below HB4.out)
   rw [← hwd] at HBD HCD HDD HD10D HMO ⊢
   have HDZ2:=HDD
   have HKX2:Hid ((z33,([]:Nm)).1.length≤maxLen∧(z33,([]:Nm)).2.length≤maxLen):=Lib.hid ⟨by have:=HZL.out;unfold maxLen;simp only;omega,by unfold maxLen;simp⟩
   clear HO2 HB2 HO3 HM3 HB3 HB4 hwd HE1 HL1 HW1
   go_cut [12] (fun v wx=>More1 wd n l (z33,[]) v wx)
   case first=>
    refine wp_region_held_drew (S:=fun _=>True) (by kernel_rfl) trivial (fun hHeld=>?_)
    obtain ⟨v0,hv0⟩:∃ zz,zz=wd.drew:=⟨_,rfl⟩
    try rw [← hv0] at hHeld
    rw [← hv0]
    have HV0:Hid (Below wd.heap.size wd v0):=Lib.hid (by rw [hv0];exact (Below.refl _ _).drew)
    clear hv0
    refine wpAnyH_take (i:=1) (oi:=?oiq11) (v:=?vq11) ?hiq11 (by kernel_rfl) (by kernel_rfl) (by kernel_rfl) ?hQq11 (Or.inl ⟨?hwq11,?hyq11⟩) (by assumption) ?restq11
    case hiq11=>(first | (simp only [lz0,lz1,lz2];rfl) | rfl)
    case hQq11=>exact fun _ _ _ h=>h
    case hwq11=>rfl
    case hyq11=>((intro w hSw;go_simp);first | done | with_reducible rfl)
    try simp only [Act.put,lz3,lz4,lz5]
    refine wpAnyH_ready (rs:=[0,3]) (by kernel_rfl) (by simp) ?_
    refine AllReadyH.cons (o:=?oq2) ?hq2 ?sq2 (AllReadyH.cons (o:=?oq3) ?hq3 ?sq3 AllReadyH.nil)
    case hq2=>(simp only [lz0,lz1,lz2];rfl)
    case hq3=>(simp only [lz0,lz1,lz2];rfl)
    case sq2=>
     intro K hK
     go_simp
     obtain ⟨uq75,huq76⟩:∃ zz,zz=v0.alloc (.cells #[] 49):=⟨_,rfl⟩
     rw [← huq76]
     have hbq77:Below v0.heap.size v0 uq75:=by rw [huq76];exact (Below.refl _ v0).alloc (Nat.le_refl _) _
     have Bq78:=Lib.hid (below_then HV0.out hbq77 HV0.out.size)
     have Eq79:Hid (World.ownsRow uq75 wd.heap.size 49 2 (.slice (some ⟨v0.heap.size,0,none⟩) 0 0) 0 []):=Lib.hid (by rw [huq76];exact World.ownsRow_made v0 #[] 0 HV0.out.size (Nat.zero_le _) rfl)
     clear huq76 hbq77
     refine hK.out _ _ trivial (fun hq4=>?_)
     clear hK K
     try simp only [Act.put,lz3,lz4,lz5]
     refine wpAnyH_ready (rs:=[2,3]) (by kernel_rfl) (by simp) ?_
     refine AllReadyH.cons (o:=?oq5) ?hq5 ?sq5 (AllReadyH.cons (o:=?oq6) ?hq6 ?sq6 AllReadyH.nil)
     case hq5=>(simp only [lz0,lz1,lz2];rfl)
     case hq6=>(simp only [lz0,lz1,lz2];rfl)
     case sq5=>
      intro K hK
      refine step_append_recK _ rfl (.tmp 74) (.tmp 75) 23 rfl wd.heap.size 49 i0 _ 2 32 Tryz.underlying23 hi hz0 hz1 hz2 rfl (by decide) _ 0 [] rfl Eq79.out pd n c (l.flatMap docVs) rfl (by rw [docs_len2,HLEN.out]) (docs_src (HDD.out.below Bq78.out)) (docs_ones l) (by unfold maxLen;omega) (by omega) Bq78.out.size ?_
      intro vq84 uq80 hwq81 hgq82 hlq83
      rw [Nat.zero_add,List.nil_append] at hwq81
      have hbq85:Hid (Below wd.heap.size wd uq80):=Lib.hid (Bq78.out.grown hgq82 Bq78.out.size (fun g hg=>(World.ownsRow.lt Eq79.out g hg).1))
      obtain ⟨Avq84,cvq84,rfl⟩:=own_slice hwq81
      have Oq86:=Lib.hid hwq81
      clear hwq81 hgq82 hlq83
      refine hK.out _ _ trivial (fun hq7=>?_)
      clear hK K
      try simp only [Act.put,lz3,lz4,lz5]
      refine wpAnyH_ready (rs:=[3]) (by kernel_rfl) (by simp) ?_
      refine AllReadyH.cons (o:=?oq8) ?hq8 ?sq8 AllReadyH.nil
      case hq8=>(simp only [lz0,lz1,lz2];rfl)
      case sq8=>
       intro K hK
       have hmk:=HMK.out uq80
       go_simp
       clear hmk
       obtain ⟨uq87,huq88⟩:∃ zz,zz=uq80.alloc (.cells zz33 5):=⟨_,rfl⟩
       rw [← huq88]
       have hbq89:Below uq80.heap.size uq80 uq87:=by rw [huq88];exact (Below.refl _ uq80).alloc (Nat.le_refl _) _
       have Bq91:=Lib.hid (below_then hbq85.out hbq89 hbq85.out.size)
       have Oq92:=Lib.hid (ownsRow_block Oq86.out (fun g hg=>hbq89.block g (World.ownsRow.lt Oq86.out g hg).2))
       have ZBq90:Hid (Blk uq87 uq80.heap.size 5 zz33):=Lib.hid (by rw [huq88];exact Blk.new _ _ _)
       clear huq88 hbq89
       refine hK.out _ _ trivial (fun hq9=>?_)
       clear hK K
       try simp only [Act.put,lz3,lz4,lz5]
       refine wpAnyH_ready (rs:=[4]) (by kernel_rfl) (by simp) ?_
       refine AllReadyH.cons (o:=?oq10) ?hq10 ?sq10 AllReadyH.nil
       case hq10=>(simp only [lz0,lz1,lz2];rfl)
       case sq10=>
        intro K hK
        have cvq93:=z33_str (by rw [← HZZ.out];exact ZBq90.out)
        rw [← HZ33.out] at cvq93
        go_simp
        clear cvq93
        refine hK.out _ _ trivial (fun hq11=>?_)
        clear hK K
        try simp only [Act.put,lz3,lz4,lz5]
        refine wpAnyH_take (i:=5) (oi:=?oiq125) (v:=?vq125) ?hiq125 (by kernel_rfl) (by kernel_rfl) (by kernel_rfl) ?hQq125 (Or.inl ⟨?hwq125,?hyq125⟩) (by assumption) ?restq125
        case hiq125=>(first | (simp only [lz0,lz1,lz2];rfl) | rfl)
        case hQq125=>exact fun _ _ _ h=>h
        case hwq125=>rfl
        case hyq125=>((intro w hSw;go_simp);first | done | with_reducible rfl)
        try simp only [Act.put,lz3,lz4,lz5]
        refine wpAnyH_ready (rs:=[6]) (by kernel_rfl) (by simp) ?_
        refine AllReadyH.cons (o:=?oq13) ?hq13 ?sq13 AllReadyH.nil
        case hq13=>(simp only [lz0,lz1,lz2];rfl)
        case sq13=>
         intro K hK
         go_simp
         obtain ⟨uq94,huq95⟩:∃ zz,zz=uq87.alloc (.cells #[.string ⟨(z33:Nm).toArray⟩,.string ⟨([]:Nm).toArray⟩] 49):=⟨_,rfl⟩
         try rw [← huq95]
         try rw [show uq87.alloc (.cells #[.string ⟨(z33:Nm).toArray⟩,.string ⟨#[]⟩] 49)=uq94 from huq95.symm]
         have hbq96:Below uq87.heap.size uq87 uq94:=by rw [huq95];exact (Below.refl _ uq87).alloc (Nat.le_refl _) _
         have Bq98:=Lib.hid (below_then Bq91.out hbq96 Bq91.out.size)
         have Oq99:=Lib.hid (ownsRow_block Oq92.out (fun g hg=>hbq96.block g (World.ownsRow.lt Oq92.out g hg).2))
         have Mq97:Hid (Blk uq94 uq87.heap.size 49 #[.string ⟨(z33:Nm).toArray⟩,.string ⟨([]:Nm).toArray⟩]):=Lib.hid (by rw [huq95];exact Blk.new _ _ _)
         clear huq95 hbq96
         refine hK.out _ _ trivial (fun hq14=>?_)
         clear hK K
         try simp only [Act.put,lz3,lz4,lz5]
         refine wpAnyH_ready (rs:=[7]) (by kernel_rfl) (by simp) ?_
         refine AllReadyH.cons (o:=?oq15) ?hq15 ?sq15 AllReadyH.nil
         case hq15=>(simp only [lz0,lz1,lz2];rfl)
         case sq15=>
          intro K hK
          refine step_append_recK _ rfl (.tmp 76) (.tmp 80) 23 rfl wd.heap.size 49 i0 _ 2 32 Tryz.underlying23 hi hz0 hz1 hz2 rfl (by decide) _ n (l.flatMap docVs) rfl Oq99.out ⟨uq87.heap.size,0,none⟩ 1 1 (docVs (z33,[])) rfl rfl (docs_cells1 Mq97.out) (docs_one1 _) (by unfold maxLen;omega) (by omega) Bq98.out.size ?_
          intro vq104 uq100 hwq101 hgq102 hlq103
          have hbq105:Hid (Below wd.heap.size wd uq100):=Lib.hid (Bq98.out.grown hgq102 Bq98.out.size (fun g hg=>(World.ownsRow.lt Oq99.out g hg).1))
          have MOq106:=Lib.hid (More1.of (p:=(z33,[])) hwq101 HLEN.out (by omega) HVL.out HKX2.out hbq105.out)
          clear hwq101 hgq102 hlq103
          refine hK.out _ _ trivial (fun hq16=>?_)
          clear hK K
          try simp only [Act.put,lz3,lz4,lz5]
          refine wpAnyH_take (i:=8) (oi:=?oiq178) (v:=?vq178) ?hiq178 (by kernel_rfl) (by kernel_rfl) (by kernel_rfl) ?hQq178 (Or.inl ⟨?hwq178,?hyq178⟩) (by assumption) ?restq178
          case hiq178=>(first | (simp only [lz0,lz1,lz2];rfl) | rfl)
          case hQq178=>exact fun _ _ _ h=>h
          case hwq178=>rfl
          case hyq178=>((intro w hSw;go_simp);first | done | with_reducible rfl)
          try simp only [Act.put,lz3,lz4,lz5]
          refine wpAnyH_done (by kernel_rfl) ?_ _
          go_wp2_with fail
          go_meet
          case rel=>exact MOq106.out
     case sq6=>
      intro K hK
      have hmk:=HMK.out uq75
      go_simp
      clear hmk
      obtain ⟨uq107,huq108⟩:∃ zz,zz=uq75.alloc (.cells zz33 5):=⟨_,rfl⟩
      rw [← huq108]
      have hbq109:Below uq75.heap.size uq75 uq107:=by rw [huq108];exact (Below.refl _ uq75).alloc (Nat.le_refl _) _
      have Bq111:=Lib.hid (below_then Bq78.out hbq109 Bq78.out.size)
      have Eq112:=Lib.hid (ownsRow_block Eq79.out (fun g hg=>hbq109.block g (World.ownsRow.lt Eq79.out g hg).2))
      have ZBq110:Hid (Blk uq107 uq75.heap.size 5 zz33):=Lib.hid (by rw [huq108];exact Blk.new _ _ _)
      clear huq108 hbq109
      have NEq113:Hid (v0.heap.size≠uq75.heap.size):=Lib.hid (by have h9:v0.heap.size < uq75.heap.size:=(World.ownsRow.lt Eq79.out _ rfl).2;omega)
      refine hK.out _ _ trivial (fun hq18=>?_)
      clear hK K
      try simp only [Act.put,lz3,lz4,lz5]
      refine wpAnyH_ready (rs:=[2,4]) (by kernel_rfl) (by simp) ?_
      refine AllReadyH.cons (o:=?oq19) ?hq19 ?sq19 (AllReadyH.cons (o:=?oq20) ?hq20 ?sq20 AllReadyH.nil)
      case hq19=>(simp only [lz0,lz1,lz2];rfl)
      case hq20=>(simp only [lz0,lz1,lz2];rfl)
      case sq19=>
       intro K hK
       refine step_append_recK _ rfl (.tmp 74) (.tmp 75) 23 rfl wd.heap.size 49 i0 _ 2 32 Tryz.underlying23 hi hz0 hz1 hz2 rfl (by decide) _ 0 [] rfl Eq112.out pd n c (l.flatMap docVs) rfl (by rw [docs_len2,HLEN.out]) (docs_src (HDD.out.below Bq111.out)) (docs_ones l) (by unfold maxLen;omega) (by omega) Bq111.out.size ?_
       intro vq118 uq114 hwq115 hgq116 hlq117
       rw [Nat.zero_add,List.nil_append] at hwq115
       have hbq119:Hid (Below wd.heap.size wd uq114):=Lib.hid (Bq111.out.grown hgq116 Bq111.out.size (fun g hg=>(World.ownsRow.lt Eq112.out g hg).1))
       have ZBq121:=Lib.hid (ZBq110.out.grown hgq116 (fun e0=>NEq113.out (Option.some.inj e0).symm))
       obtain ⟨Avq118,cvq118,rfl⟩:=own_slice hwq115
       have Oq120:=Lib.hid hwq115
       clear hwq115 hgq116 hlq117
       refine hK.out _ _ trivial (fun hq21=>?_)
       clear hK K
       try simp only [Act.put,lz3,lz4,lz5]
       refine wpAnyH_ready (rs:=[4]) (by kernel_rfl) (by simp) ?_
       refine AllReadyH.cons (o:=?oq22) ?hq22 ?sq22 AllReadyH.nil
       case hq22=>(simp only [lz0,lz1,lz2];rfl)
       case sq22=>
        intro K hK
        have cvq122:=z33_str (by rw [← HZZ.out];exact ZBq121.out)
        rw [← HZ33.out] at cvq122
        go_simp
        clear cvq122
        refine hK.out _ _ trivial (fun hq23=>?_)
        clear hK K
        try simp only [Act.put,lz3,lz4,lz5]
        refine wpAnyH_take (i:=5) (oi:=?oiq245) (v:=?vq245) ?hiq245 (by kernel_rfl) (by kernel_rfl) (by kernel_rfl) ?hQq245 (Or.inl ⟨?hwq245,?hyq245⟩) (by assumption) ?restq245
        case hiq245=>(first | (simp only [lz0,lz1,lz2];rfl) | rfl)
        case hQq245=>exact fun _ _ _ h=>h
        case hwq245=>rfl
        case hyq245=>((intro w hSw;go_simp);first | done | with_reducible rfl)
        try simp only [Act.put,lz3,lz4,lz5]
        refine wpAnyH_ready (rs:=[6]) (by kernel_rfl) (by simp) ?_
        refine AllReadyH.cons (o:=?oq25) ?hq25 ?sq25 AllReadyH.nil
        case hq25=>(simp only [lz0,lz1,lz2];rfl)
        case sq25=>
         intro K hK
         go_simp
         obtain ⟨uq123,huq124⟩:∃ zz,zz=uq114.alloc (.cells #[.string ⟨(z33:Nm).toArray⟩,.string ⟨([]:Nm).toArray⟩] 49):=⟨_,rfl⟩
         try rw [← huq124]
         try rw [show uq114.alloc (.cells #[.string ⟨(z33:Nm).toArray⟩,.string ⟨#[]⟩] 49)=uq123 from huq124.symm]
         have hbq125:Below uq114.heap.size uq114 uq123:=by rw [huq124];exact (Below.refl _ uq114).alloc (Nat.le_refl _) _
         have Bq127:=Lib.hid (below_then hbq119.out hbq125 hbq119.out.size)
         have Oq128:=Lib.hid (ownsRow_block Oq120.out (fun g hg=>hbq125.block g (World.ownsRow.lt Oq120.out g hg).2))
         have Mq126:Hid (Blk uq123 uq114.heap.size 49 #[.string ⟨(z33:Nm).toArray⟩,.string ⟨([]:Nm).toArray⟩]):=Lib.hid (by rw [huq124];exact Blk.new _ _ _)
         clear huq124 hbq125
         refine hK.out _ _ trivial (fun hq26=>?_)
         clear hK K
         try simp only [Act.put,lz3,lz4,lz5]
         refine wpAnyH_ready (rs:=[7]) (by kernel_rfl) (by simp) ?_
         refine AllReadyH.cons (o:=?oq27) ?hq27 ?sq27 AllReadyH.nil
         case hq27=>(simp only [lz0,lz1,lz2];rfl)
         case sq27=>
          intro K hK
          refine step_append_recK _ rfl (.tmp 76) (.tmp 80) 23 rfl wd.heap.size 49 i0 _ 2 32 Tryz.underlying23 hi hz0 hz1 hz2 rfl (by decide) _ n (l.flatMap docVs) rfl Oq128.out ⟨uq114.heap.size,0,none⟩ 1 1 (docVs (z33,[])) rfl rfl (docs_cells1 Mq126.out) (docs_one1 _) (by unfold maxLen;omega) (by omega) Bq127.out.size ?_
          intro vq133 uq129 hwq130 hgq131 hlq132
          have hbq134:Hid (Below wd.heap.size wd uq129):=Lib.hid (Bq127.out.grown hgq131 Bq127.out.size (fun g hg=>(World.ownsRow.lt Oq128.out g hg).1))
          have MOq135:=Lib.hid (More1.of (p:=(z33,[])) hwq130 HLEN.out (by omega) HVL.out HKX2.out hbq134.out)
          clear hwq130 hgq131 hlq132
          refine hK.out _ _ trivial (fun hq28=>?_)
          clear hK K
          try simp only [Act.put,lz3,lz4,lz5]
          refine wpAnyH_take (i:=8) (oi:=?oiq298) (v:=?vq298) ?hiq298 (by kernel_rfl) (by kernel_rfl) (by kernel_rfl) ?hQq298 (Or.inl ⟨?hwq298,?hyq298⟩) (by assumption) ?restq298
          case hiq298=>(first | (simp only [lz0,lz1,lz2];rfl) | rfl)
          case hQq298=>exact fun _ _ _ h=>h
          case hwq298=>rfl
          case hyq298=>((intro w hSw;go_simp);first | done | with_reducible rfl)
          try simp only [Act.put,lz3,lz4,lz5]
          refine wpAnyH_done (by kernel_rfl) ?_ _
          go_wp2_with fail
          go_meet
          case rel=>exact MOq135.out
      case sq20=>
       intro K hK
       have cvq136:=z33_str (by rw [← HZZ.out];exact ZBq110.out)
       rw [← HZ33.out] at cvq136
       go_simp
       clear cvq136
       refine hK.out _ _ trivial (fun hq30=>?_)
       clear hK K
       try simp only [Act.put,lz3,lz4,lz5]
       refine wpAnyH_take (i:=5) (oi:=?oiq315) (v:=?vq315) ?hiq315 (by kernel_rfl) (by kernel_rfl) (by kernel_rfl) ?hQq315 (Or.inl ⟨?hwq315,?hyq315⟩) (by assumption) ?restq315
       case hiq315=>(first | (simp only [lz0,lz1,lz2];rfl) | rfl)
       case hQq315=>exact fun _ _ _ h=>h
       case hwq315=>rfl
       case hyq315=>((intro w hSw;go_simp);first | done | with_reducible rfl)
       try simp only [Act.put,lz3,lz4,lz5]
       refine wpAnyH_ready (rs:=[2,6]) (by kernel_rfl) (by simp) ?_
       refine AllReadyH.cons (o:=?oq32) ?hq32 ?sq32 (AllReadyH.cons (o:=?oq33) ?hq33 ?sq33 AllReadyH.nil)
       case hq32=>(simp only [lz0,lz1,lz2];rfl)
       case hq33=>(simp only [lz0,lz1,lz2];rfl)
       case sq32=>
        intro K hK
        refine step_append_recK _ rfl (.tmp 74) (.tmp 75) 23 rfl wd.heap.size 49 i0 _ 2 32 Tryz.underlying23 hi hz0 hz1 hz2 rfl (by decide) _ 0 [] rfl Eq112.out pd n c (l.flatMap docVs) rfl (by rw [docs_len2,HLEN.out]) (docs_src (HDD.out.below Bq111.out)) (docs_ones l) (by unfold maxLen;omega) (by omega) Bq111.out.size ?_
        intro vq141 uq137 hwq138 hgq139 hlq140
        rw [Nat.zero_add,List.nil_append] at hwq138
        have hbq142:Hid (Below wd.heap.size wd uq137):=Lib.hid (Bq111.out.grown hgq139 Bq111.out.size (fun g hg=>(World.ownsRow.lt Eq112.out g hg).1))
        obtain ⟨Avq141,cvq141,rfl⟩:=own_slice hwq138
        have Oq143:=Lib.hid hwq138
        clear hwq138 hgq139 hlq140
        refine hK.out _ _ trivial (fun hq34=>?_)
        clear hK K
        try simp only [Act.put,lz3,lz4,lz5]
        refine wpAnyH_ready (rs:=[6]) (by kernel_rfl) (by simp) ?_
        refine AllReadyH.cons (o:=?oq35) ?hq35 ?sq35 AllReadyH.nil
        case hq35=>(simp only [lz0,lz1,lz2];rfl)
        case sq35=>
         intro K hK
         go_simp
         obtain ⟨uq144,huq145⟩:∃ zz,zz=uq137.alloc (.cells #[.string ⟨(z33:Nm).toArray⟩,.string ⟨([]:Nm).toArray⟩] 49):=⟨_,rfl⟩
         try rw [← huq145]
         try rw [show uq137.alloc (.cells #[.string ⟨(z33:Nm).toArray⟩,.string ⟨#[]⟩] 49)=uq144 from huq145.symm]
         have hbq146:Below uq137.heap.size uq137 uq144:=by rw [huq145];exact (Below.refl _ uq137).alloc (Nat.le_refl _) _
         have Bq148:=Lib.hid (below_then hbq142.out hbq146 hbq142.out.size)
         have Oq149:=Lib.hid (ownsRow_block Oq143.out (fun g hg=>hbq146.block g (World.ownsRow.lt Oq143.out g hg).2))
         have Mq147:Hid (Blk uq144 uq137.heap.size 49 #[.string ⟨(z33:Nm).toArray⟩,.string ⟨([]:Nm).toArray⟩]):=Lib.hid (by rw [huq145];exact Blk.new _ _ _)
         clear huq145 hbq146
         refine hK.out _ _ trivial (fun hq36=>?_)
         clear hK K
         try simp only [Act.put,lz3,lz4,lz5]
         refine wpAnyH_ready (rs:=[7]) (by kernel_rfl) (by simp) ?_
         refine AllReadyH.cons (o:=?oq37) ?hq37 ?sq37 AllReadyH.nil
         case hq37=>(simp only [lz0,lz1,lz2];rfl)
         case sq37=>
          intro K hK
          refine step_append_recK _ rfl (.tmp 76) (.tmp 80) 23 rfl wd.heap.size 49 i0 _ 2 32 Tryz.underlying23 hi hz0 hz1 hz2 rfl (by decide) _ n (l.flatMap docVs) rfl Oq149.out ⟨uq137.heap.size,0,none⟩ 1 1 (docVs (z33,[])) rfl rfl (docs_cells1 Mq147.out) (docs_one1 _) (by unfold maxLen;omega) (by omega) Bq148.out.size ?_
          intro vq154 uq150 hwq151 hgq152 hlq153
          have hbq155:Hid (Below wd.heap.size wd uq150):=Lib.hid (Bq148.out.grown hgq152 Bq148.out.size (fun g hg=>(World.ownsRow.lt Oq149.out g hg).1))
          have MOq156:=Lib.hid (More1.of (p:=(z33,[])) hwq151 HLEN.out (by omega) HVL.out HKX2.out hbq155.out)
          clear hwq151 hgq152 hlq153
          refine hK.out _ _ trivial (fun hq38=>?_)
          clear hK K
          try simp only [Act.put,lz3,lz4,lz5]
          refine wpAnyH_take (i:=8) (oi:=?oiq398) (v:=?vq398) ?hiq398 (by kernel_rfl) (by kernel_rfl) (by kernel_rfl) ?hQq398 (Or.inl ⟨?hwq398,?hyq398⟩) (by assumption) ?restq398
          case hiq398=>(first | (simp only [lz0,lz1,lz2];rfl) | rfl)
          case hQq398=>exact fun _ _ _ h=>h
          case hwq398=>rfl
          case hyq398=>((intro w hSw;go_simp);first | done | with_reducible rfl)
          try simp only [Act.put,lz3,lz4,lz5]
          refine wpAnyH_done (by kernel_rfl) ?_ _
          go_wp2_with fail
          go_meet
          case rel=>exact MOq156.out
       case sq33=>
        intro K hK
        go_simp
        obtain ⟨uq157,huq158⟩:∃ zz,zz=uq107.alloc (.cells #[.string ⟨(z33:Nm).toArray⟩,.string ⟨([]:Nm).toArray⟩] 49):=⟨_,rfl⟩
        try rw [← huq158]
        try rw [show uq107.alloc (.cells #[.string ⟨(z33:Nm).toArray⟩,.string ⟨#[]⟩] 49)=uq157 from huq158.symm]
        have hbq159:Below uq107.heap.size uq107 uq157:=by rw [huq158];exact (Below.refl _ uq107).alloc (Nat.le_refl _) _
        have Bq161:=Lib.hid (below_then Bq111.out hbq159 Bq111.out.size)
        have Eq162:=Lib.hid (ownsRow_block Eq112.out (fun g hg=>hbq159.block g (World.ownsRow.lt Eq112.out g hg).2))
        have Mq160:Hid (Blk uq157 uq107.heap.size 49 #[.string ⟨(z33:Nm).toArray⟩,.string ⟨([]:Nm).toArray⟩]):=Lib.hid (by rw [huq158];exact Blk.new _ _ _)
        clear huq158 hbq159
        have NEq163:Hid (v0.heap.size≠uq107.heap.size):=Lib.hid (by have h9:v0.heap.size < uq107.heap.size:=(World.ownsRow.lt Eq112.out _ rfl).2;omega)
        refine hK.out _ _ trivial (fun hq40=>?_)
        clear hK K
        try simp only [Act.put,lz3,lz4,lz5]
        refine wpAnyH_ready (rs:=[2]) (by kernel_rfl) (by simp) ?_
        refine AllReadyH.cons (o:=?oq41) ?hq41 ?sq41 AllReadyH.nil
        case hq41=>(simp only [lz0,lz1,lz2];rfl)
        case sq41=>
         intro K hK
         refine step_append_recK _ rfl (.tmp 74) (.tmp 75) 23 rfl wd.heap.size 49 i0 _ 2 32 Tryz.underlying23 hi hz0 hz1 hz2 rfl (by decide) _ 0 [] rfl Eq162.out pd n c (l.flatMap docVs) rfl (by rw [docs_len2,HLEN.out]) (docs_src (HDD.out.below Bq161.out)) (docs_ones l) (by unfold maxLen;omega) (by omega) Bq161.out.size ?_
         intro vq168 uq164 hwq165 hgq166 hlq167
         rw [Nat.zero_add,List.nil_append] at hwq165
         have hbq169:Hid (Below wd.heap.size wd uq164):=Lib.hid (Bq161.out.grown hgq166 Bq161.out.size (fun g hg=>(World.ownsRow.lt Eq162.out g hg).1))
         have Mq171:=Lib.hid (Mq160.out.grown hgq166 (fun e0=>NEq163.out (Option.some.inj e0).symm))
         obtain ⟨Avq168,cvq168,rfl⟩:=own_slice hwq165
         have Oq170:=Lib.hid hwq165
         clear hwq165 hgq166 hlq167
         refine hK.out _ _ trivial (fun hq42=>?_)
         clear hK K
         try simp only [Act.put,lz3,lz4,lz5]
         refine wpAnyH_ready (rs:=[7]) (by kernel_rfl) (by simp) ?_
         refine AllReadyH.cons (o:=?oq43) ?hq43 ?sq43 AllReadyH.nil
         case hq43=>(simp only [lz0,lz1,lz2];rfl)
         case sq43=>
          intro K hK
          refine step_append_recK _ rfl (.tmp 76) (.tmp 80) 23 rfl wd.heap.size 49 i0 _ 2 32 Tryz.underlying23 hi hz0 hz1 hz2 rfl (by decide) _ n (l.flatMap docVs) rfl Oq170.out ⟨uq107.heap.size,0,none⟩ 1 1 (docVs (z33,[])) rfl rfl (docs_cells1 Mq171.out) (docs_one1 _) (by unfold maxLen;omega) (by omega) hbq169.out.size ?_
          intro vq176 uq172 hwq173 hgq174 hlq175
          have hbq177:Hid (Below wd.heap.size wd uq172):=Lib.hid (hbq169.out.grown hgq174 hbq169.out.size (fun g hg=>(World.ownsRow.lt Oq170.out g hg).1))
          have MOq178:=Lib.hid (More1.of (p:=(z33,[])) hwq173 HLEN.out (by omega) HVL.out HKX2.out hbq177.out)
          clear hwq173 hgq174 hlq175
          refine hK.out _ _ trivial (fun hq44=>?_)
          clear hK K
          try simp only [Act.put,lz3,lz4,lz5]
          refine wpAnyH_take (i:=8) (oi:=?oiq458) (v:=?vq458) ?hiq458 (by kernel_rfl) (by kernel_rfl) (by kernel_rfl) ?hQq458 (Or.inl ⟨?hwq458,?hyq458⟩) (by assumption) ?restq458
          case hiq458=>(first | (simp only [lz0,lz1,lz2];rfl) | rfl)
          case hQq458=>exact fun _ _ _ h=>h
          case hwq458=>rfl
          case hyq458=>((intro w hSw;go_simp);first | done | with_reducible rfl)
          try simp only [Act.put,lz3,lz4,lz5]
          refine wpAnyH_done (by kernel_rfl) ?_ _
          go_wp2_with fail
          go_meet
          case rel=>exact MOq178.out
    case sq3=>
     intro K hK
     have hmk:=HMK.out v0
     go_simp
     clear hmk
     obtain ⟨uq179,huq180⟩:∃ zz,zz=v0.alloc (.cells zz33 5):=⟨_,rfl⟩
     rw [← huq180]
     have hbq181:Below v0.heap.size v0 uq179:=by rw [huq180];exact (Below.refl _ v0).alloc (Nat.le_refl _) _
     have Bq183:=Lib.hid (below_then HV0.out hbq181 HV0.out.size)
     have ZBq182:Hid (Blk uq179 v0.heap.size 5 zz33):=Lib.hid (by rw [huq180];exact Blk.new _ _ _)
     clear huq180 hbq181
     refine hK.out _ _ trivial (fun hq46=>?_)
     clear hK K
     try simp only [Act.put,lz3,lz4,lz5]
     refine wpAnyH_ready (rs:=[0,4]) (by kernel_rfl) (by simp) ?_
     refine AllReadyH.cons (o:=?oq47) ?hq47 ?sq47 (AllReadyH.cons (o:=?oq48) ?hq48 ?sq48 AllReadyH.nil)
     case hq47=>(simp only [lz0,lz1,lz2];rfl)
     case hq48=>(simp only [lz0,lz1,lz2];rfl)
     case sq47=>
      intro K hK
      go_simp
      obtain ⟨uq184,huq185⟩:∃ zz,zz=uq179.alloc (.cells #[] 49):=⟨_,rfl⟩
      rw [← huq185]
      have hbq186:Below uq179.heap.size uq179 uq184:=by rw [huq185];exact (Below.refl _ uq179).alloc (Nat.le_refl _) _
      have Bq187:=Lib.hid (below_then Bq183.out hbq186 Bq183.out.size)
      have ZBq188:=Lib.hid (ZBq182.out.below hbq186 ZBq182.out.lt)
      have Eq189:Hid (World.ownsRow uq184 wd.heap.size 49 2 (.slice (some ⟨uq179.heap.size,0,none⟩) 0 0) 0 []):=Lib.hid (by rw [huq185];exact World.ownsRow_made uq179 #[] 0 Bq183.out.size (Nat.zero_le _) rfl)
      clear huq185 hbq186
      have NEq190:Hid (uq179.heap.size≠v0.heap.size):=Lib.hid (by have:=ZBq182.out.lt;omega)
      refine hK.out _ _ trivial (fun hq49=>?_)
      clear hK K
      try simp only [Act.put,lz3,lz4,lz5]
      refine wpAnyH_ready (rs:=[2,4]) (by kernel_rfl) (by simp) ?_
      refine AllReadyH.cons (o:=?oq50) ?hq50 ?sq50 (AllReadyH.cons (o:=?oq51) ?hq51 ?sq51 AllReadyH.nil)
      case hq50=>(simp only [lz0,lz1,lz2];rfl)
      case hq51=>(simp only [lz0,lz1,lz2];rfl)
      case sq50=>
       intro K hK
       refine step_append_recK _ rfl (.tmp 74) (.tmp 75) 23 rfl wd.heap.size 49 i0 _ 2 32 Tryz.underlying23 hi hz0 hz1 hz2 rfl (by decide) _ 0 [] rfl Eq189.out pd n c (l.flatMap docVs) rfl (by rw [docs_len2,HLEN.out]) (docs_src (HDD.out.below Bq187.out)) (docs_ones l) (by unfold maxLen;omega) (by omega) Bq187.out.size ?_
       intro vq195 uq191 hwq192 hgq193 hlq194
       rw [Nat.zero_add,List.nil_append] at hwq192
       have hbq196:Hid (Below wd.heap.size wd uq191):=Lib.hid (Bq187.out.grown hgq193 Bq187.out.size (fun g hg=>(World.ownsRow.lt Eq189.out g hg).1))
       have ZBq198:=Lib.hid (ZBq188.out.grown hgq193 (fun e0=>NEq190.out (Option.some.inj e0).symm))
       obtain ⟨Avq195,cvq195,rfl⟩:=own_slice hwq192
       have Oq197:=Lib.hid hwq192
       clear hwq192 hgq193 hlq194
       refine hK.out _ _ trivial (fun hq52=>?_)
       clear hK K
       try simp only [Act.put,lz3,lz4,lz5]
       refine wpAnyH_ready (rs:=[4]) (by kernel_rfl) (by simp) ?_
       refine AllReadyH.cons (o:=?oq53) ?hq53 ?sq53 AllReadyH.nil
       case hq53=>(simp only [lz0,lz1,lz2];rfl)
       case sq53=>
        intro K hK
        have cvq199:=z33_str (by rw [← HZZ.out];exact ZBq198.out)
        rw [← HZ33.out] at cvq199
        go_simp
        clear cvq199
        refine hK.out _ _ trivial (fun hq54=>?_)
        clear hK K
        try simp only [Act.put,lz3,lz4,lz5]
        refine wpAnyH_take (i:=5) (oi:=?oiq555) (v:=?vq555) ?hiq555 (by kernel_rfl) (by kernel_rfl) (by kernel_rfl) ?hQq555 (Or.inl ⟨?hwq555,?hyq555⟩) (by assumption) ?restq555
        case hiq555=>(first | (simp only [lz0,lz1,lz2];rfl) | rfl)
        case hQq555=>exact fun _ _ _ h=>h
        case hwq555=>rfl
        case hyq555=>((intro w hSw;go_simp);first | done | with_reducible rfl)
        try simp only [Act.put,lz3,lz4,lz5]
        refine wpAnyH_ready (rs:=[6]) (by kernel_rfl) (by simp) ?_
        refine AllReadyH.cons (o:=?oq56) ?hq56 ?sq56 AllReadyH.nil
        case hq56=>(simp only [lz0,lz1,lz2];rfl)
        case sq56=>
         intro K hK
         go_simp
         obtain ⟨uq200,huq201⟩:∃ zz,zz=uq191.alloc (.cells #[.string ⟨(z33:Nm).toArray⟩,.string ⟨([]:Nm).toArray⟩] 49):=⟨_,rfl⟩
         try rw [← huq201]
         try rw [show uq191.alloc (.cells #[.string ⟨(z33:Nm).toArray⟩,.string ⟨#[]⟩] 49)=uq200 from huq201.symm]
         have hbq202:Below uq191.heap.size uq191 uq200:=by rw [huq201];exact (Below.refl _ uq191).alloc (Nat.le_refl _) _
         have Bq204:=Lib.hid (below_then hbq196.out hbq202 hbq196.out.size)
         have Oq205:=Lib.hid (ownsRow_block Oq197.out (fun g hg=>hbq202.block g (World.ownsRow.lt Oq197.out g hg).2))
         have Mq203:Hid (Blk uq200 uq191.heap.size 49 #[.string ⟨(z33:Nm).toArray⟩,.string ⟨([]:Nm).toArray⟩]):=Lib.hid (by rw [huq201];exact Blk.new _ _ _)
         clear huq201 hbq202
         refine hK.out _ _ trivial (fun hq57=>?_)
         clear hK K
         try simp only [Act.put,lz3,lz4,lz5]
         refine wpAnyH_ready (rs:=[7]) (by kernel_rfl) (by simp) ?_
         refine AllReadyH.cons (o:=?oq58) ?hq58 ?sq58 AllReadyH.nil
         case hq58=>(simp only [lz0,lz1,lz2];rfl)
         case sq58=>
          intro K hK
          refine step_append_recK _ rfl (.tmp 76) (.tmp 80) 23 rfl wd.heap.size 49 i0 _ 2 32 Tryz.underlying23 hi hz0 hz1 hz2 rfl (by decide) _ n (l.flatMap docVs) rfl Oq205.out ⟨uq191.heap.size,0,none⟩ 1 1 (docVs (z33,[])) rfl rfl (docs_cells1 Mq203.out) (docs_one1 _) (by unfold maxLen;omega) (by omega) Bq204.out.size ?_
          intro vq210 uq206 hwq207 hgq208 hlq209
          have hbq211:Hid (Below wd.heap.size wd uq206):=Lib.hid (Bq204.out.grown hgq208 Bq204.out.size (fun g hg=>(World.ownsRow.lt Oq205.out g hg).1))
          have MOq212:=Lib.hid (More1.of (p:=(z33,[])) hwq207 HLEN.out (by omega) HVL.out HKX2.out hbq211.out)
          clear hwq207 hgq208 hlq209
          refine hK.out _ _ trivial (fun hq59=>?_)
          clear hK K
          try simp only [Act.put,lz3,lz4,lz5]
          refine wpAnyH_take (i:=8) (oi:=?oiq608) (v:=?vq608) ?hiq608 (by kernel_rfl) (by kernel_rfl) (by kernel_rfl) ?hQq608 (Or.inl ⟨?hwq608,?hyq608⟩) (by assumption) ?restq608
          case hiq608=>(first | (simp only [lz0,lz1,lz2];rfl) | rfl)
          case hQq608=>exact fun _ _ _ h=>h
          case hwq608=>rfl
          case hyq608=>((intro w hSw;go_simp);first | done | with_reducible rfl)
          try simp only [Act.put,lz3,lz4,lz5]
          refine wpAnyH_done (by kernel_rfl) ?_ _
          go_wp2_with fail
          go_meet
          case rel=>exact MOq212.out
      case sq51=>
       intro K hK
       have cvq213:=z33_str (by rw [← HZZ.out];exact ZBq188.out)
       rw [← HZ33.out] at cvq213
       go_simp
       clear cvq213
       refine hK.out _ _ trivial (fun hq61=>?_)
       clear hK K
       try simp only [Act.put,lz3,lz4,lz5]
       refine wpAnyH_take (i:=5) (oi:=?oiq625) (v:=?vq625) ?hiq625 (by kernel_rfl) (by kernel_rfl) (by kernel_rfl) ?hQq625 (Or.inl ⟨?hwq625,?hyq625⟩) (by assumption) ?restq625
       case hiq625=>(first | (simp only [lz0,lz1,lz2];rfl) | rfl)
       case hQq625=>exact fun _ _ _ h=>h
       case hwq625=>rfl
       case hyq625=>((intro w hSw;go_simp);first | done | with_reducible rfl)
       try simp only [Act.put,lz3,lz4,lz5]
       refine wpAnyH_ready (rs:=[2,6]) (by kernel_rfl) (by simp) ?_
       refine AllReadyH.cons (o:=?oq63) ?hq63 ?sq63 (AllReadyH.cons (o:=?oq64) ?hq64 ?sq64 AllReadyH.nil)
       case hq63=>(simp only [lz0,lz1,lz2];rfl)
       case hq64=>(simp only [lz0,lz1,lz2];rfl)
       case sq63=>
        intro K hK
        refine step_append_recK _ rfl (.tmp 74) (.tmp 75) 23 rfl wd.heap.size 49 i0 _ 2 32 Tryz.underlying23 hi hz0 hz1 hz2 rfl (by decide) _ 0 [] rfl Eq189.out pd n c (l.flatMap docVs) rfl (by rw [docs_len2,HLEN.out]) (docs_src (HDD.out.below Bq187.out)) (docs_ones l) (by unfold maxLen;omega) (by omega) Bq187.out.size ?_
        intro vq218 uq214 hwq215 hgq216 hlq217
        rw [Nat.zero_add,List.nil_append] at hwq215
        have hbq219:Hid (Below wd.heap.size wd uq214):=Lib.hid (Bq187.out.grown hgq216 Bq187.out.size (fun g hg=>(World.ownsRow.lt Eq189.out g hg).1))
        obtain ⟨Avq218,cvq218,rfl⟩:=own_slice hwq215
        have Oq220:=Lib.hid hwq215
        clear hwq215 hgq216 hlq217
        refine hK.out _ _ trivial (fun hq65=>?_)
        clear hK K
        try simp only [Act.put,lz3,lz4,lz5]
        refine wpAnyH_ready (rs:=[6]) (by kernel_rfl) (by simp) ?_
        refine AllReadyH.cons (o:=?oq66) ?hq66 ?sq66 AllReadyH.nil
        case hq66=>(simp only [lz0,lz1,lz2];rfl)
        case sq66=>
         intro K hK
         go_simp
         obtain ⟨uq221,huq222⟩:∃ zz,zz=uq214.alloc (.cells #[.string ⟨(z33:Nm).toArray⟩,.string ⟨([]:Nm).toArray⟩] 49):=⟨_,rfl⟩
         try rw [← huq222]
         try rw [show uq214.alloc (.cells #[.string ⟨(z33:Nm).toArray⟩,.string ⟨#[]⟩] 49)=uq221 from huq222.symm]
         have hbq223:Below uq214.heap.size uq214 uq221:=by rw [huq222];exact (Below.refl _ uq214).alloc (Nat.le_refl _) _
         have Bq225:=Lib.hid (below_then hbq219.out hbq223 hbq219.out.size)
         have Oq226:=Lib.hid (ownsRow_block Oq220.out (fun g hg=>hbq223.block g (World.ownsRow.lt Oq220.out g hg).2))
         have Mq224:Hid (Blk uq221 uq214.heap.size 49 #[.string ⟨(z33:Nm).toArray⟩,.string ⟨([]:Nm).toArray⟩]):=Lib.hid (by rw [huq222];exact Blk.new _ _ _)
         clear huq222 hbq223
         refine hK.out _ _ trivial (fun hq67=>?_)
         clear hK K
         try simp only [Act.put,lz3,lz4,lz5]
         refine wpAnyH_ready (rs:=[7]) (by kernel_rfl) (by simp) ?_
         refine AllReadyH.cons (o:=?oq68) ?hq68 ?sq68 AllReadyH.nil
         case hq68=>(simp only [lz0,lz1,lz2];rfl)
         case sq68=>
          intro K hK
          refine step_append_recK _ rfl (.tmp 76) (.tmp 80) 23 rfl wd.heap.size 49 i0 _ 2 32 Tryz.underlying23 hi hz0 hz1 hz2 rfl (by decide) _ n (l.flatMap docVs) rfl Oq226.out ⟨uq214.heap.size,0,none⟩ 1 1 (docVs (z33,[])) rfl rfl (docs_cells1 Mq224.out) (docs_one1 _) (by unfold maxLen;omega) (by omega) Bq225.out.size ?_
          intro vq231 uq227 hwq228 hgq229 hlq230
          have hbq232:Hid (Below wd.heap.size wd uq227):=Lib.hid (Bq225.out.grown hgq229 Bq225.out.size (fun g hg=>(World.ownsRow.lt Oq226.out g hg).1))
          have MOq233:=Lib.hid (More1.of (p:=(z33,[])) hwq228 HLEN.out (by omega) HVL.out HKX2.out hbq232.out)
          clear hwq228 hgq229 hlq230
          refine hK.out _ _ trivial (fun hq69=>?_)
          clear hK K
          try simp only [Act.put,lz3,lz4,lz5]
          refine wpAnyH_take (i:=8) (oi:=?oiq708) (v:=?vq708) ?hiq708 (by kernel_rfl) (by kernel_rfl) (by kernel_rfl) ?hQq708 (Or.inl ⟨?hwq708,?hyq708⟩) (by assumption) ?restq708
          case hiq708=>(first | (simp only [lz0,lz1,lz2];rfl) | rfl)
          case hQq708=>exact fun _ _ _ h=>h
          case hwq708=>rfl
          case hyq708=>((intro w hSw;go_simp);first | done | with_reducible rfl)
          try simp only [Act.put,lz3,lz4,lz5]
          refine wpAnyH_done (by kernel_rfl) ?_ _
          go_wp2_with fail
          go_meet
          case rel=>exact MOq233.out
       case sq64=>
        intro K hK
        go_simp
        obtain ⟨uq234,huq235⟩:∃ zz,zz=uq184.alloc (.cells #[.string ⟨(z33:Nm).toArray⟩,.string ⟨([]:Nm).toArray⟩] 49):=⟨_,rfl⟩
        try rw [← huq235]
        try rw [show uq184.alloc (.cells #[.string ⟨(z33:Nm).toArray⟩,.string ⟨#[]⟩] 49)=uq234 from huq235.symm]
        have hbq236:Below uq184.heap.size uq184 uq234:=by rw [huq235];exact (Below.refl _ uq184).alloc (Nat.le_refl _) _
        have Bq238:=Lib.hid (below_then Bq187.out hbq236 Bq187.out.size)
        have Eq239:=Lib.hid (ownsRow_block Eq189.out (fun g hg=>hbq236.block g (World.ownsRow.lt Eq189.out g hg).2))
        have Mq237:Hid (Blk uq234 uq184.heap.size 49 #[.string ⟨(z33:Nm).toArray⟩,.string ⟨([]:Nm).toArray⟩]):=Lib.hid (by rw [huq235];exact Blk.new _ _ _)
        clear huq235 hbq236
        have NEq240:Hid (uq179.heap.size≠uq184.heap.size):=Lib.hid (by have h9:uq179.heap.size < uq184.heap.size:=(World.ownsRow.lt Eq189.out _ rfl).2;omega)
        refine hK.out _ _ trivial (fun hq71=>?_)
        clear hK K
        try simp only [Act.put,lz3,lz4,lz5]
        refine wpAnyH_ready (rs:=[2]) (by kernel_rfl) (by simp) ?_
        refine AllReadyH.cons (o:=?oq72) ?hq72 ?sq72 AllReadyH.nil
        case hq72=>(simp only [lz0,lz1,lz2];rfl)
        case sq72=>
         intro K hK
         refine step_append_recK _ rfl (.tmp 74) (.tmp 75) 23 rfl wd.heap.size 49 i0 _ 2 32 Tryz.underlying23 hi hz0 hz1 hz2 rfl (by decide) _ 0 [] rfl Eq239.out pd n c (l.flatMap docVs) rfl (by rw [docs_len2,HLEN.out]) (docs_src (HDD.out.below Bq238.out)) (docs_ones l) (by unfold maxLen;omega) (by omega) Bq238.out.size ?_
         intro vq245 uq241 hwq242 hgq243 hlq244
         rw [Nat.zero_add,List.nil_append] at hwq242
         have hbq246:Hid (Below wd.heap.size wd uq241):=Lib.hid (Bq238.out.grown hgq243 Bq238.out.size (fun g hg=>(World.ownsRow.lt Eq239.out g hg).1))
         have Mq248:=Lib.hid (Mq237.out.grown hgq243 (fun e0=>NEq240.out (Option.some.inj e0).symm))
         obtain ⟨Avq245,cvq245,rfl⟩:=own_slice hwq242
         have Oq247:=Lib.hid hwq242
         clear hwq242 hgq243 hlq244
         refine hK.out _ _ trivial (fun hq73=>?_)
         clear hK K
         try simp only [Act.put,lz3,lz4,lz5]
         refine wpAnyH_ready (rs:=[7]) (by kernel_rfl) (by simp) ?_
         refine AllReadyH.cons (o:=?oq74) ?hq74 ?sq74 AllReadyH.nil
         case hq74=>(simp only [lz0,lz1,lz2];rfl)
         case sq74=>
          intro K hK
          refine step_append_recK _ rfl (.tmp 76) (.tmp 80) 23 rfl wd.heap.size 49 i0 _ 2 32 Tryz.underlying23 hi hz0 hz1 hz2 rfl (by decide) _ n (l.flatMap docVs) rfl Oq247.out ⟨uq184.heap.size,0,none⟩ 1 1 (docVs (z33,[])) rfl rfl (docs_cells1 Mq248.out) (docs_one1 _) (by unfold maxLen;omega) (by omega) hbq246.out.size ?_
          intro vq253 uq249 hwq250 hgq251 hlq252
          have hbq254:Hid (Below wd.heap.size wd uq249):=Lib.hid (hbq246.out.grown hgq251 hbq246.out.size (fun g hg=>(World.ownsRow.lt Oq247.out g hg).1))
          have MOq255:=Lib.hid (More1.of (p:=(z33,[])) hwq250 HLEN.out (by omega) HVL.out HKX2.out hbq254.out)
          clear hwq250 hgq251 hlq252
          refine hK.out _ _ trivial (fun hq75=>?_)
          clear hK K
          try simp only [Act.put,lz3,lz4,lz5]
          refine wpAnyH_take (i:=8) (oi:=?oiq768) (v:=?vq768) ?hiq768 (by kernel_rfl) (by kernel_rfl) (by kernel_rfl) ?hQq768 (Or.inl ⟨?hwq768,?hyq768⟩) (by assumption) ?restq768
          case hiq768=>(first | (simp only [lz0,lz1,lz2];rfl) | rfl)
          case hQq768=>exact fun _ _ _ h=>h
          case hwq768=>rfl
          case hyq768=>((intro w hSw;go_simp);first | done | with_reducible rfl)
          try simp only [Act.put,lz3,lz4,lz5]
          refine wpAnyH_done (by kernel_rfl) ?_ _
          go_wp2_with fail
          go_meet
          case rel=>exact MOq255.out
     case sq48=>
      intro K hK
      have cvq256:=z33_str (by rw [← HZZ.out];exact ZBq182.out)
      rw [← HZ33.out] at cvq256
      go_simp
      clear cvq256
      refine hK.out _ _ trivial (fun hq77=>?_)
      clear hK K
      try simp only [Act.put,lz3,lz4,lz5]
      refine wpAnyH_take (i:=5) (oi:=?oiq785) (v:=?vq785) ?hiq785 (by kernel_rfl) (by kernel_rfl) (by kernel_rfl) ?hQq785 (Or.inl ⟨?hwq785,?hyq785⟩) (by assumption) ?restq785
      case hiq785=>(first | (simp only [lz0,lz1,lz2];rfl) | rfl)
      case hQq785=>exact fun _ _ _ h=>h
      case hwq785=>rfl
      case hyq785=>((intro w hSw;go_simp);first | done | with_reducible rfl)
      try simp only [Act.put,lz3,lz4,lz5]
      refine wpAnyH_ready (rs:=[0,6]) (by kernel_rfl) (by simp) ?_
      refine AllReadyH.cons (o:=?oq79) ?hq79 ?sq79 (AllReadyH.cons (o:=?oq80) ?hq80 ?sq80 AllReadyH.nil)
      case hq79=>(simp only [lz0,lz1,lz2];rfl)
      case hq80=>(simp only [lz0,lz1,lz2];rfl)
      case sq79=>
       intro K hK
       go_simp
       obtain ⟨uq257,huq258⟩:∃ zz,zz=uq179.alloc (.cells #[] 49):=⟨_,rfl⟩
       rw [← huq258]
       have hbq259:Below uq179.heap.size uq179 uq257:=by rw [huq258];exact (Below.refl _ uq179).alloc (Nat.le_refl _) _
       have Bq260:=Lib.hid (below_then Bq183.out hbq259 Bq183.out.size)
       have Eq261:Hid (World.ownsRow uq257 wd.heap.size 49 2 (.slice (some ⟨uq179.heap.size,0,none⟩) 0 0) 0 []):=Lib.hid (by rw [huq258];exact World.ownsRow_made uq179 #[] 0 Bq183.out.size (Nat.zero_le _) rfl)
       clear huq258 hbq259
       refine hK.out _ _ trivial (fun hq81=>?_)
       clear hK K
       try simp only [Act.put,lz3,lz4,lz5]
       refine wpAnyH_ready (rs:=[2,6]) (by kernel_rfl) (by simp) ?_
       refine AllReadyH.cons (o:=?oq82) ?hq82 ?sq82 (AllReadyH.cons (o:=?oq83) ?hq83 ?sq83 AllReadyH.nil)
       case hq82=>(simp only [lz0,lz1,lz2];rfl)
       case hq83=>(simp only [lz0,lz1,lz2];rfl)
       case sq82=>
        intro K hK
        refine step_append_recK _ rfl (.tmp 74) (.tmp 75) 23 rfl wd.heap.size 49 i0 _ 2 32 Tryz.underlying23 hi hz0 hz1 hz2 rfl (by decide) _ 0 [] rfl Eq261.out pd n c (l.flatMap docVs) rfl (by rw [docs_len2,HLEN.out]) (docs_src (HDD.out.below Bq260.out)) (docs_ones l) (by unfold maxLen;omega) (by omega) Bq260.out.size ?_
        intro vq266 uq262 hwq263 hgq264 hlq265
        rw [Nat.zero_add,List.nil_append] at hwq263
        have hbq267:Hid (Below wd.heap.size wd uq262):=Lib.hid (Bq260.out.grown hgq264 Bq260.out.size (fun g hg=>(World.ownsRow.lt Eq261.out g hg).1))
        obtain ⟨Avq266,cvq266,rfl⟩:=own_slice hwq263
        have Oq268:=Lib.hid hwq263
        clear hwq263 hgq264 hlq265
        refine hK.out _ _ trivial (fun hq84=>?_)
        clear hK K
        try simp only [Act.put,lz3,lz4,lz5]
        refine wpAnyH_ready (rs:=[6]) (by kernel_rfl) (by simp) ?_
        refine AllReadyH.cons (o:=?oq85) ?hq85 ?sq85 AllReadyH.nil
        case hq85=>(simp only [lz0,lz1,lz2];rfl)
        case sq85=>
         intro K hK
         go_simp
         obtain ⟨uq269,huq270⟩:∃ zz,zz=uq262.alloc (.cells #[.string ⟨(z33:Nm).toArray⟩,.string ⟨([]:Nm).toArray⟩] 49):=⟨_,rfl⟩
         try rw [← huq270]
         try rw [show uq262.alloc (.cells #[.string ⟨(z33:Nm).toArray⟩,.string ⟨#[]⟩] 49)=uq269 from huq270.symm]
         have hbq271:Below uq262.heap.size uq262 uq269:=by rw [huq270];exact (Below.refl _ uq262).alloc (Nat.le_refl _) _
         have Bq273:=Lib.hid (below_then hbq267.out hbq271 hbq267.out.size)
         have Oq274:=Lib.hid (ownsRow_block Oq268.out (fun g hg=>hbq271.block g (World.ownsRow.lt Oq268.out g hg).2))
         have Mq272:Hid (Blk uq269 uq262.heap.size 49 #[.string ⟨(z33:Nm).toArray⟩,.string ⟨([]:Nm).toArray⟩]):=Lib.hid (by rw [huq270];exact Blk.new _ _ _)
         clear huq270 hbq271
         refine hK.out _ _ trivial (fun hq86=>?_)
         clear hK K
         try simp only [Act.put,lz3,lz4,lz5]
         refine wpAnyH_ready (rs:=[7]) (by kernel_rfl) (by simp) ?_
         refine AllReadyH.cons (o:=?oq87) ?hq87 ?sq87 AllReadyH.nil
         case hq87=>(simp only [lz0,lz1,lz2];rfl)
         case sq87=>
          intro K hK
          refine step_append_recK _ rfl (.tmp 76) (.tmp 80) 23 rfl wd.heap.size 49 i0 _ 2 32 Tryz.underlying23 hi hz0 hz1 hz2 rfl (by decide) _ n (l.flatMap docVs) rfl Oq274.out ⟨uq262.heap.size,0,none⟩ 1 1 (docVs (z33,[])) rfl rfl (docs_cells1 Mq272.out) (docs_one1 _) (by unfold maxLen;omega) (by omega) Bq273.out.size ?_
          intro vq279 uq275 hwq276 hgq277 hlq278
          have hbq280:Hid (Below wd.heap.size wd uq275):=Lib.hid (Bq273.out.grown hgq277 Bq273.out.size (fun g hg=>(World.ownsRow.lt Oq274.out g hg).1))
          have MOq281:=Lib.hid (More1.of (p:=(z33,[])) hwq276 HLEN.out (by omega) HVL.out HKX2.out hbq280.out)
          clear hwq276 hgq277 hlq278
          refine hK.out _ _ trivial (fun hq88=>?_)
          clear hK K
          try simp only [Act.put,lz3,lz4,lz5]
          refine wpAnyH_take (i:=8) (oi:=?oiq898) (v:=?vq898) ?hiq898 (by kernel_rfl) (by kernel_rfl) (by kernel_rfl) ?hQq898 (Or.inl ⟨?hwq898,?hyq898⟩) (by assumption) ?restq898
          case hiq898=>(first | (simp only [lz0,lz1,lz2];rfl) | rfl)
          case hQq898=>exact fun _ _ _ h=>h
          case hwq898=>rfl
          case hyq898=>((intro w hSw;go_simp);first | done | with_reducible rfl)
          try simp only [Act.put,lz3,lz4,lz5]
          refine wpAnyH_done (by kernel_rfl) ?_ _
          go_wp2_with fail
          go_meet
          case rel=>exact MOq281.out
       case sq83=>
        intro K hK
        go_simp
        obtain ⟨uq282,huq283⟩:∃ zz,zz=uq257.alloc (.cells #[.string ⟨(z33:Nm).toArray⟩,.string ⟨([]:Nm).toArray⟩] 49):=⟨_,rfl⟩
        try rw [← huq283]
        try rw [show uq257.alloc (.cells #[.string ⟨(z33:Nm).toArray⟩,.string ⟨#[]⟩] 49)=uq282 from huq283.symm]
        have hbq284:Below uq257.heap.size uq257 uq282:=by rw [huq283];exact (Below.refl _ uq257).alloc (Nat.le_refl _) _
        have Bq286:=Lib.hid (below_then Bq260.out hbq284 Bq260.out.size)
        have Eq287:=Lib.hid (ownsRow_block Eq261.out (fun g hg=>hbq284.block g (World.ownsRow.lt Eq261.out g hg).2))
        have Mq285:Hid (Blk uq282 uq257.heap.size 49 #[.string ⟨(z33:Nm).toArray⟩,.string ⟨([]:Nm).toArray⟩]):=Lib.hid (by rw [huq283];exact Blk.new _ _ _)
        clear huq283 hbq284
        have NEq288:Hid (uq179.heap.size≠uq257.heap.size):=Lib.hid (by have h9:uq179.heap.size < uq257.heap.size:=(World.ownsRow.lt Eq261.out _ rfl).2;omega)
        refine hK.out _ _ trivial (fun hq90=>?_)
        clear hK K
        try simp only [Act.put,lz3,lz4,lz5]
        refine wpAnyH_ready (rs:=[2]) (by kernel_rfl) (by simp) ?_
        refine AllReadyH.cons (o:=?oq91) ?hq91 ?sq91 AllReadyH.nil
        case hq91=>(simp only [lz0,lz1,lz2];rfl)
        case sq91=>
         intro K hK
         refine step_append_recK _ rfl (.tmp 74) (.tmp 75) 23 rfl wd.heap.size 49 i0 _ 2 32 Tryz.underlying23 hi hz0 hz1 hz2 rfl (by decide) _ 0 [] rfl Eq287.out pd n c (l.flatMap docVs) rfl (by rw [docs_len2,HLEN.out]) (docs_src (HDD.out.below Bq286.out)) (docs_ones l) (by unfold maxLen;omega) (by omega) Bq286.out.size ?_
         intro vq293 uq289 hwq290 hgq291 hlq292
         rw [Nat.zero_add,List.nil_append] at hwq290
         have hbq294:Hid (Below wd.heap.size wd uq289):=Lib.hid (Bq286.out.grown hgq291 Bq286.out.size (fun g hg=>(World.ownsRow.lt Eq287.out g hg).1))
         have Mq296:=Lib.hid (Mq285.out.grown hgq291 (fun e0=>NEq288.out (Option.some.inj e0).symm))
         obtain ⟨Avq293,cvq293,rfl⟩:=own_slice hwq290
         have Oq295:=Lib.hid hwq290
         clear hwq290 hgq291 hlq292
         refine hK.out _ _ trivial (fun hq92=>?_)
         clear hK K
         try simp only [Act.put,lz3,lz4,lz5]
         refine wpAnyH_ready (rs:=[7]) (by kernel_rfl) (by simp) ?_
         refine AllReadyH.cons (o:=?oq93) ?hq93 ?sq93 AllReadyH.nil
         case hq93=>(simp only [lz0,lz1,lz2];rfl)
         case sq93=>
          intro K hK
          refine step_append_recK _ rfl (.tmp 76) (.tmp 80) 23 rfl wd.heap.size 49 i0 _ 2 32 Tryz.underlying23 hi hz0 hz1 hz2 rfl (by decide) _ n (l.flatMap docVs) rfl Oq295.out ⟨uq257.heap.size,0,none⟩ 1 1 (docVs (z33,[])) rfl rfl (docs_cells1 Mq296.out) (docs_one1 _) (by unfold maxLen;omega) (by omega) hbq294.out.size ?_
          intro vq301 uq297 hwq298 hgq299 hlq300
          have hbq302:Hid (Below wd.heap.size wd uq297):=Lib.hid (hbq294.out.grown hgq299 hbq294.out.size (fun g hg=>(World.ownsRow.lt Oq295.out g hg).1))
          have MOq303:=Lib.hid (More1.of (p:=(z33,[])) hwq298 HLEN.out (by omega) HVL.out HKX2.out hbq302.out)
          clear hwq298 hgq299 hlq300
          refine hK.out _ _ trivial (fun hq94=>?_)
          clear hK K
          try simp only [Act.put,lz3,lz4,lz5]
          refine wpAnyH_take (i:=8) (oi:=?oiq958) (v:=?vq958) ?hiq958 (by kernel_rfl) (by kernel_rfl) (by kernel_rfl) ?hQq958 (Or.inl ⟨?hwq958,?hyq958⟩) (by assumption) ?restq958
          case hiq958=>(first | (simp only [lz0,lz1,lz2];rfl) | rfl)
          case hQq958=>exact fun _ _ _ h=>h
          case hwq958=>rfl
          case hyq958=>((intro w hSw;go_simp);first | done | with_reducible rfl)
          try simp only [Act.put,lz3,lz4,lz5]
          refine wpAnyH_done (by kernel_rfl) ?_ _
          go_wp2_with fail
          go_meet
          case rel=>exact MOq303.out
      case sq80=>
       intro K hK
       go_simp
       obtain ⟨uq304,huq305⟩:∃ zz,zz=uq179.alloc (.cells #[.string ⟨(z33:Nm).toArray⟩,.string ⟨([]:Nm).toArray⟩] 49):=⟨_,rfl⟩
       try rw [← huq305]
       try rw [show uq179.alloc (.cells #[.string ⟨(z33:Nm).toArray⟩,.string ⟨#[]⟩] 49)=uq304 from huq305.symm]
       have hbq306:Below uq179.heap.size uq179 uq304:=by rw [huq305];exact (Below.refl _ uq179).alloc (Nat.le_refl _) _
       have Bq308:=Lib.hid (below_then Bq183.out hbq306 Bq183.out.size)
       have Mq307:Hid (Blk uq304 uq179.heap.size 49 #[.string ⟨(z33:Nm).toArray⟩,.string ⟨([]:Nm).toArray⟩]):=Lib.hid (by rw [huq305];exact Blk.new _ _ _)
       clear huq305 hbq306
       refine hK.out _ _ trivial (fun hq96=>?_)
       clear hK K
       try simp only [Act.put,lz3,lz4,lz5]
       refine wpAnyH_ready (rs:=[0]) (by kernel_rfl) (by simp) ?_
       refine AllReadyH.cons (o:=?oq97) ?hq97 ?sq97 AllReadyH.nil
       case hq97=>(simp only [lz0,lz1,lz2];rfl)
       case sq97=>
        intro K hK
        go_simp
        obtain ⟨uq309,huq310⟩:∃ zz,zz=uq304.alloc (.cells #[] 49):=⟨_,rfl⟩
        rw [← huq310]
        have hbq311:Below uq304.heap.size uq304 uq309:=by rw [huq310];exact (Below.refl _ uq304).alloc (Nat.le_refl _) _
        have Bq312:=Lib.hid (below_then Bq308.out hbq311 Bq308.out.size)
        have Mq313:=Lib.hid (Mq307.out.below hbq311 Mq307.out.lt)
        have Eq314:Hid (World.ownsRow uq309 wd.heap.size 49 2 (.slice (some ⟨uq304.heap.size,0,none⟩) 0 0) 0 []):=Lib.hid (by rw [huq310];exact World.ownsRow_made uq304 #[] 0 Bq308.out.size (Nat.zero_le _) rfl)
        clear huq310 hbq311
        have NEq315:Hid (uq304.heap.size≠uq179.heap.size):=Lib.hid (by have:=Mq307.out.lt;omega)
        refine hK.out _ _ trivial (fun hq98=>?_)
        clear hK K
        try simp only [Act.put,lz3,lz4,lz5]
        refine wpAnyH_ready (rs:=[2]) (by kernel_rfl) (by simp) ?_
        refine AllReadyH.cons (o:=?oq99) ?hq99 ?sq99 AllReadyH.nil
        case hq99=>(simp only [lz0,lz1,lz2];rfl)
        case sq99=>
         intro K hK
         refine step_append_recK _ rfl (.tmp 74) (.tmp 75) 23 rfl wd.heap.size 49 i0 _ 2 32 Tryz.underlying23 hi hz0 hz1 hz2 rfl (by decide) _ 0 [] rfl Eq314.out pd n c (l.flatMap docVs) rfl (by rw [docs_len2,HLEN.out]) (docs_src (HDD.out.below Bq312.out)) (docs_ones l) (by unfold maxLen;omega) (by omega) Bq312.out.size ?_
         intro vq320 uq316 hwq317 hgq318 hlq319
         rw [Nat.zero_add,List.nil_append] at hwq317
         have hbq321:Hid (Below wd.heap.size wd uq316):=Lib.hid (Bq312.out.grown hgq318 Bq312.out.size (fun g hg=>(World.ownsRow.lt Eq314.out g hg).1))
         have Mq323:=Lib.hid (Mq313.out.grown hgq318 (fun e0=>NEq315.out (Option.some.inj e0).symm))
         obtain ⟨Avq320,cvq320,rfl⟩:=own_slice hwq317
         have Oq322:=Lib.hid hwq317
         clear hwq317 hgq318 hlq319
         refine hK.out _ _ trivial (fun hq100=>?_)
         clear hK K
         try simp only [Act.put,lz3,lz4,lz5]
         refine wpAnyH_ready (rs:=[7]) (by kernel_rfl) (by simp) ?_
         refine AllReadyH.cons (o:=?oq101) ?hq101 ?sq101 AllReadyH.nil
         case hq101=>(simp only [lz0,lz1,lz2];rfl)
         case sq101=>
          intro K hK
          refine step_append_recK _ rfl (.tmp 76) (.tmp 80) 23 rfl wd.heap.size 49 i0 _ 2 32 Tryz.underlying23 hi hz0 hz1 hz2 rfl (by decide) _ n (l.flatMap docVs) rfl Oq322.out ⟨uq179.heap.size,0,none⟩ 1 1 (docVs (z33,[])) rfl rfl (docs_cells1 Mq323.out) (docs_one1 _) (by unfold maxLen;omega) (by omega) hbq321.out.size ?_
          intro vq328 uq324 hwq325 hgq326 hlq327
          have hbq329:Hid (Below wd.heap.size wd uq324):=Lib.hid (hbq321.out.grown hgq326 hbq321.out.size (fun g hg=>(World.ownsRow.lt Oq322.out g hg).1))
          have MOq330:=Lib.hid (More1.of (p:=(z33,[])) hwq325 HLEN.out (by omega) HVL.out HKX2.out hbq329.out)
          clear hwq325 hgq326 hlq327
          refine hK.out _ _ trivial (fun hq102=>?_)
          clear hK K
          try simp only [Act.put,lz3,lz4,lz5]
          refine wpAnyH_take (i:=8) (oi:=?oiq1038) (v:=?vq1038) ?hiq1038 (by kernel_rfl) (by kernel_rfl) (by kernel_rfl) ?hQq1038 (Or.inl ⟨?hwq1038,?hyq1038⟩) (by assumption) ?restq1038
          case hiq1038=>(first | (simp only [lz0,lz1,lz2];rfl) | rfl)
          case hQq1038=>exact fun _ _ _ h=>h
          case hwq1038=>rfl
          case hyq1038=>((intro w hSw;go_simp);first | done | with_reducible rfl)
          try simp only [Act.put,lz3,lz4,lz5]
          refine wpAnyH_done (by kernel_rfl) ?_ _
          go_wp2_with fail
          go_meet
          case rel=>exact MOq330.out
   case rest=>
    obtain ⟨A12,c12,rfl,hc12,hd12,hb12⟩:=hcut
    obtain ⟨A4',c4',e4,hc4,hd4,-⟩:=HMO.out
    cases e4
    obtain ⟨we,hwe⟩:∃ z,z=wc:=⟨_,rfl⟩
    rw [← hwe] at hd12 hb12 ⊢
    replace HB:=Lib.hid (below_then HBD.out hb12 HBD.out.size)
    replace HC1:=Lib.hid (HCD.out.below hb12)
    replace HD:=Lib.hid (HDD.out.below hb12)
    have HT:=Lib.hid (HD10D.out.below hb12)
    have HX:=Lib.hid (hd4.below hb12)
    have HL:=Lib.hid hd12
    have HNT:Hid (¬ docsR (l++[(xk,([]:Nm))])):=Lib.hid (docsR_again (q:=(xk,xt)) (List.mem_of_getElem? HPR.out) rfl)
    have HNX:Hid (¬ docsR (l++[(([]:Nm),([120]:Nm))])):=Lib.hid (docsR_more (fun h=>by have h1:=h.1;simp at h1))
    have HNL:Hid (¬ docsR (l++[(z33,([]:Nm))])):=Lib.hid (docsR_more (fun h=>by have h1:=h.2.1;have h2:=HZL.out;simp only at h1;omega))
    have HRK:Hid (docsR (l.take k)):=Lib.hid (docsR_take HR.out k)
    have HTX:Hid (textN (l.take k)≤textN l):=Lib.hid (textN_take l k)
    have HLK:Hid ((segB V1 (l.take k)).length≤1000000):=Lib.hid (segB_le HO1.out HRK.out (by have:=HSM.out.2.text;have:=HTX.out;omega))
    have hsl:∀ w,(Instr.slice 23 (.slice (some pd) n c) none (some (.int .i64 k)) none).run Tryz.prog w=.ok (.slice (some pd) k c) w:=fun w=>docs_to w (some pd) n c k (by have:=HNC.out;omega)
    clear hd12 hb12 hwe hd4 HMO HBD HCD HDD HDZ2 HD10D HD10 HBA HCA HDA HDZ
    have HU5:=Lib.hid (HSO.out.build_no HC1.out HO1.out A10 (n+1) c10 (l++[(xk,[])]) HT.out HC10.out HNT.out)
    go_wp2_with fail
    refine HU5.out.mono ?_
    intro e z5 hso
    obtain ⟨rfl,hb⟩:=hso.no HNT.out
    replace HB:=Lib.hid (below_then HB.out hb HB.out.size)
    replace HC1:=Lib.hid (HC1.out.below hb)
    replace HD:=Lib.hid (HD.out.below hb)
    replace HT:=Lib.hid (HT.out.below hb)
    replace HX:=Lib.hid (HX.out.below hb)
    replace HL:=Lib.hid (HL.out.below hb)
    clear hso hb HU5
    have HU6:=Lib.hid (HSO.out.build_no HC1.out HO1.out A4 (n+1) c4 (l++[([],[120])]) HX.out hc4 HNX.out)
    go_wp2_with fail
    refine HU6.out.mono ?_
    intro e z6 hso
    obtain ⟨rfl,hb⟩:=hso.no HNX.out
    replace HB:=Lib.hid (below_then HB.out hb HB.out.size)
    replace HC1:=Lib.hid (HC1.out.below hb)
    replace HD:=Lib.hid (HD.out.below hb)
    replace HT:=Lib.hid (HT.out.below hb)
    replace HX:=Lib.hid (HX.out.below hb)
    replace HL:=Lib.hid (HL.out.below hb)
    clear hso hb HU6
    have HU7:=Lib.hid (HSO.out.build_no HC1.out HO1.out A12 (n+1) c12 (l++[(z33,[])]) HL.out hc12 HNL.out)
    go_wp2_with fail
    refine HU7.out.mono ?_
    intro e z7 hso
    obtain ⟨rfl,hb⟩:=hso.no HNL.out
    replace HB:=Lib.hid (below_then HB.out hb HB.out.size)
    replace HC1:=Lib.hid (HC1.out.below hb)
    replace HD:=Lib.hid (HD.out.below hb)
    replace HT:=Lib.hid (HT.out.below hb)
    replace HX:=Lib.hid (HX.out.below hb)
    replace HL:=Lib.hid (HL.out.below hb)
    clear hso hb HU7
    have HU8:=Lib.hid (HSO.out.build_nil z7 (some pd) n c l HD.out HNC.out)
    go_wp2_with fail
    refine HU8.out.mono ?_
    rintro e z8 ⟨rfl,hb⟩
    replace HB:=Lib.hid (below_then HB.out hb HB.out.size)
    replace HC1:=Lib.hid (HC1.out.below hb)
    replace HD:=Lib.hid (HD.out.below hb)
    replace HT:=Lib.hid (HT.out.below hb)
    replace HX:=Lib.hid (HX.out.below hb)
    replace HL:=Lib.hid (HL.out.below hb)
    clear hb HU8
    have HU9:=Lib.hid (HSO.out.build HC1.out HO1.out (some pd) k c (l.take k) (HD.out.upto (by omega)) (by have:=HNC.out;omega) (by have:=HSM.out.2.text;have:=HTX.out;omega))
    go_wp2_with fail
    refine HU9.out.mono ?_
    intro e z9 hso
    obtain ⟨k9,hk9⟩:∃ k9,(segB V1 (l.take k)).length=k9:=⟨_,rfl⟩
    obtain ⟨S9,cs9,rfl,-,-,hb⟩:=hso.yes HRK.out (by have:=HLK.out;omega) hk9
    replace HB:=Lib.hid (below_then HB.out hb HB.out.size)
    replace HC1:=Lib.hid (HC1.out.below hb)
    replace HD:=Lib.hid (HD.out.below hb)
    replace HT:=Lib.hid (HT.out.below hb)
    replace HX:=Lib.hid (HX.out.below hb)
    replace HL:=Lib.hid (HL.out.below hb)
    clear hso hb hk9 HU9
    go_wp2
    go_ret
    exact ⟨rfl,HB.out⟩
 ·have HR:=Lib.hid hR
  clear hR
  go_wp2_with fail
  refine (of_is w2 none 0 0 _ (pairs_nil _) (by omega) (by omega) HV1.out).mono ?_
  rintro e x1 ⟨A1,B1,n1,m1,ca1,cb1,rfl,hsee,hb⟩
  replace HB:=Lib.hid (below_then HB.out hb HB.out.size)
  have HE1:=Lib.hid hsee
  clear hb hsee
  go_wp2_with fail
  refine (new_is x1 A1 B1 n1 m1 ca1 cb1 V1 HE1.out HO1.out).mono ?_
  rintro e y1 ⟨b1,rfl,hb,hC⟩
  replace HB:=Lib.hid (below_then HB.out hb HB.out.size)
  have HC1:=Lib.hid hC
  clear hb hC HE1
  have HU1:=Lib.hid (HSO.out.build HC1.out HO1.out D n c l (HD.out.below HB.out) HNC.out (by have:=HSM.out.2.text;omega))
  go_wp2_with fail
  refine HU1.out.mono ?_
  intro e z1 hso
  obtain ⟨rfl,hb⟩:=hso.no HR.out
  replace HB:=Lib.hid (below_then HB.out hb HB.out.size)
  clear hso hb HU1
  go_wp2
  go_ret
  exact ⟨rfl,HB.out⟩
end Go.Proofs.YthcjikpabpgpfaaGreat
