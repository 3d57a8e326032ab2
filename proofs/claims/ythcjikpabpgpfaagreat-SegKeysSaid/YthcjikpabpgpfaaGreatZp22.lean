import Derived.Test.YthcjikpabpgpfaaGreatZp0
import Derived.Test.YthcjikpabpgpfaaGreatZp20
import Derived.StillTailTactics
import Derived.Maps.AppendAt
import Derived.Deep.AppendLies
set_option linter.unusedSimpArgs false
set_option maxHeartbeats 16000000
set_option maxRecDepth 100000
namespace Go.Proofs.YthcjikpabpgpfaaGreat
open Go.RowKit Go.Maps Go.WideMaps
theorem BytesIn.keptF {w w':World} {F:Nat→Prop} {A:Option Addr} {n:Nat} {l:Nm} (h:BytesIn w A n l) (hk:Kept F w w') (ha:∀ ad,A=some ad→0 < n→¬ F ad.block):BytesIn w' A n l:=
 ⟨h.1,h.2.1.keep fun ad e h0=>hk.block _ (h.2.2 ad e h0) (ha ad e h0),fun ad e h0=>Nat.lt_of_lt_of_le (h.2.2 ad e h0) hk.size⟩
theorem key_str {x:Nm} (h:x.length≤maxLen):keyOf Tryz.prog 9 (.string ⟨x.toArray⟩)=some (.string x):=by
 have:=keyOf_string_mk Tryz.underlying9 (s:=⟨x.toArray⟩) (by simpa [ByteArray.size] using h)
 simpa using this
theorem addToken_any (w:World) (F:Nat→Prop) (b:Nat) (V:Voc) (hG:Grow w F b V) (A:Option Addr) (n c:Nat) (x:Nm) (hx:TokIn w F (.slice A n c) x) (hnew:findT V.tok x < 0) (hl:V.tok.length < 1048576):
  Calls Tryz.prog 89 #[at0 b,.slice A n c] w fun e w'=>e=.returned (.int .i64 V.tok.length)∧Grow w' (Own F w w') b ⟨V.tok++[x],V.mer⟩∧Kept F w w':=by
 obtain ⟨tv,mv,bt,bp,svs,DT,DP,h⟩:=hG
 obtain ⟨A',c',e1,hc,hA,hap⟩:=hx
 cases e1
 obtain ⟨At,ct,rfl⟩:=own_slice h.trow
 obtain ⟨i0,hi,hz0,hz1,hz2⟩:=info_parts rowInfo
 have HH:=Lib.hid h
 have HA:=Lib.hid hA
 have HAP:=Lib.hid hap
 have HNEW:=Lib.hid hnew
 have HC:=Lib.hid hc
 obtain ⟨k,hk⟩:∃ k,k=V.tok.length:=⟨_,rfl⟩
 have g0:=h.blk.cell 0
 simp only [lz0,lz1] at g0
 have hrow:=h.trow
 have hfv:=h.fv
 rw [← hk] at g0 hrow hl hfv ⊢
 have HFV:=Lib.hid hfv
 have HR:=Lib.hid hrow
 have HK:=Lib.hid hk
 have HNB:=Lib.hid (own_blk_ne hrow h.blk (by decide))
 have HBK:=Lib.hid h.blk
 rw [← hk] at HBK
 clear h hA hap hnew hrow hk hc hfv
 unfold at0
 go_enter Tryz.func89,Tryz.ntmps89
 go_wp2_with (at_builtin;refine wpList_append_own_at _ rfl _ _ 27 rfl 0 24 i0 (.slice none 0 0) 1 24 Tryz.underlying27 hi hz0 hz1 hz2 rfl (by decide) _ k svs rfl (HR.out.alloc _) ⟨w.heap.size,0,none⟩ 1 1 [.slice A x.length c] rfl rfl (cell_one_new _ _ _) (by simp [Value.oneCell']) (by unfold maxLen;omega) (by omega) (Nat.zero_le _) ?_;intro v' w2 hown' hg2 hnil hloc;obtain ⟨A2,c2,hv⟩:=own_slice hown';rw [hv];clear hnil;have HV:=Lib.hid hv;clear hv;have HB2:=Lib.hid ((HBK.out.alloc (.cells #[.slice A x.length c] 24)).grown hg2 (fun e=>HNB.out e.symm));have z0:=HB2.out.frozen 0;have e0:=HB2.out.cell 0;simp at e0;have HOWN:=Lib.hid hown';have HG2:=Lib.hid hg2;have HLOC:=Lib.hid hloc;clear hown' hg2 hloc)
 have h:=HH.out
 have hg2:=HG2.out
 have hown:=HOWN.out
 have hlt:=h.lt
 have hsz:w.heap.size < w2.heap.size:=Nat.lt_of_lt_of_le (by simp) hg2.size
 have hkp:Kept F w (w2.setCell ⟨b,0,none⟩ (.slice A2 (k+1) c2)):=((((Kept.refl F w).alloc _).grown hg2 (fun g hg=>.inl (HFV.out g hg)))).setCell (.inl h.fb) _
 have hcell:∀ i,i < w.heap.size→i≠b→(Value.slice At k ct).ownBlock≠some i→(w2.setCell ⟨b,0,none⟩ (.slice A2 (k+1) c2)).heap[i]?=w.heap[i]?:=fun i hi h1 h2=>by
  rw [heap_setCell_other _ _ _ h1,hg2.block i (by simp;omega) (fun e=>h2 e.symm),Below.heap_alloc _ _ _ (by omega)]
 have hblk:Blk (w2.setCell ⟨b,0,none⟩ (.slice A2 (k+1) c2)) b 221 #[.slice A2 (k+1) c2,mv,.map (some bt),.map (some bp)]:=by
  have:=HB2.out.set_ 0 (.slice A2 (k+1) c2)
  simpa using this
 rw [HV.out] at hown
 have nbt:b≠bt:=h.blk.ne_map h.tmap
 have ntt:(Value.slice At k ct).ownBlock≠some bt:=own_map_ne HR.out h.tmap
 have hrow3:(w2.setCell ⟨b,0,none⟩ (.slice A2 (k+1) c2)).ownsRow 0 24 1 (.slice A2 (k+1) c2) (k+1) (svs++[.slice A x.length c]):=
  ownsRow_block hown fun g hg=>heap_setCell_other _ _ _ fun e=>own_blk_ne hown HB2.out (by decide) (by rw [hg,e])
 have hsz3:(w2.setCell ⟨b,0,none⟩ (.slice A2 (k+1) c2)).heap.size=w2.heap.size:=size_setCell' _ _ _
 obtain ⟨w3,hw3⟩:∃ w3,w3=w2.setCell ⟨b,0,none⟩ (.slice A2 (k+1) c2):=⟨_,rfl⟩
 rw [← hw3] at hkp hcell hblk hrow3 hsz3 ⊢
 have htm:tokAt w3 bt k DT:=by rw [HK.out];exact ownsMap_block h.tmap (hcell bt (hlt bt h.ft) nbt.symm ntt)
 have hA3:=HA.out.keptF hkp HAP.out
 have hx63:x.length≤maxLen:=HA.out.1
 have hkey:=key_str hx63
 have hcv:(convert 24 9 (.slice A x.length c)).run Tryz.prog w3.drew=.ok (.string ⟨x.toArray⟩) w3.drew:=str_of hA3.drew c
 have g2:=hblk.cell 2
 simp only [lz0,lz1,lz2] at g2
 have HW3:=Lib.hid hw3
 have HKP:=Lib.hid hkp
 have HCELL:=Lib.hid hcell
 have HBLK:=Lib.hid hblk
 have HROW3:=Lib.hid hrow3
 have HTM:=Lib.hid htm
 have HNBT:=Lib.hid nbt
 have HNTT:=Lib.hid ntt
 have HLT:=Lib.hid hlt
 have HSZ:=Lib.hid hsz
 have HSZ3:=Lib.hid hsz3
 clear h hg2 hown hlt hsz hkp hcell hblk nbt ntt hrow3 hw3 htm hA3 hx63 z0 e0 g0 hsz3
 go_still_tail 7,(by kernel_rfl)
 change wpList _ _ _ _ _ w3.drew
 go_wp2_with (at_mapUpdate;refine wpList_mapUpdate_own _ rfl _ _ _ 218 rfl 9 3 strLaw Tryz.underlying218 (plainElem Tryz.prog 3) bt k DT rfl HTM.out.drew (by unfold maxLen;omega) _ _ (.string x) rfl rfl hkey (.lit (.int .i64 (k:Int))) [] (plainElem_int Tryz.underlying3 (WalkArith.wf_i64 (by omega))) ?_;intro w4 hown4 hgrow4;have HO4:=Lib.hid hown4;have HG4:=Lib.hid hgrow4;clear hown4 hgrow4)
 go_ret
 have h:=HH.out
 have hsz4:w3.heap.size≤w4.heap.size:=HG4.out.size
 have hs3:=HSZ3.out
 have hs:=HSZ.out
 have hb4:∀ i,i < w3.heap.size→i≠bt→w4.heap[i]?=w3.heap[i]?:=fun i h1 h2=>HG4.out.block i h1 (by simpa using h2)
 have hkp4:Kept F w w4:=HKP.out.drew.grown HG4.out (fun g hg=>by cases hg;exact .inl h.ft)
 have hF:∀ i,Own F w w4 i→F i∨w.heap.size≤i:=fun i hi=>hi.imp id (·.1)
 have hown3:w3.ownsMap Tryz.prog 9 (plainElem Tryz.prog 3) bt k DT:=HTM.out
 have hloc:∀ g,(Value.slice A2 (k+1) c2).ownBlock=some g→Own F w w4 g:=fun g hg=>by
  have hl:=HLOC.out
  rw [HV.out] at hl
  rcases hl with hl | hl
  ·exact .inl (HFV.out g (hl.symm.trans hg))
  ·refine .inr ?_
   have hlt:=(HROW3.out.lt g hg).2
   rw [hl] at hg
   simp at hg
   omega
 refine ⟨rfl,⟨.slice A2 (k+1) c2,mv,bt,bp,svs++[.slice A x.length c],DT.put (.string x) (.lit (.int .i64 (k:Int))),DP,?_⟩,hkp4⟩
 have hlen:(V.tok++[x]).length=k+1:=by rw [HK.out];simp
 have hcl:svs.length=k:=by have:=HR.out.1;simpa using this
 have hold:∀ i,i < w.heap.size→i≠b→(Value.slice At k ct).ownBlock≠some i→i≠bt→w4.heap[i]?=w.heap[i]?:=fun i h0 h1 h2 h3=>(hb4 i (by omega) h3).trans (HCELL.out i h0 h1 h2)
 exact {
  blk:=HBLK.out.same (hb4 b HBLK.out.lt HNBT.out)
  trow:=by
   show w4.ownsRow 0 24 1 _ (V.tok++[x]).length _
   rw [hlen]
   exact ownsRow_block HROW3.out fun g hg=>hb4 g (HROW3.out.lt g hg).2 fun e=>own_map_ne HROW3.out hown3 (by rw [hg,e])
  toks:=fun i sv y h1 h2=>by
   rcases Nat.lt_or_ge i k with hik | hik
   ·rw [List.getElem?_append_left (by omega)] at h1
    have h2':(V.tok++[x])[i]?=some y:=h2
    rw [List.getElem?_append_left (by rw [← HK.out];exact hik)] at h2'
    exact (h.toks i sv y h1 h2').mono hkp4 (fun _ hf=>hf) hF
   ·have h2':(V.tok++[x])[i]?=some y:=h2
    have hi':=(List.getElem?_eq_some_iff.1 h2').1
    obtain rfl:i=k:=by omega
    rw [List.getElem?_append_right (by omega),hcl,Nat.sub_self] at h1
    rw [List.getElem?_append_right (by rw [← HK.out];exact Nat.le_refl _),← HK.out,Nat.sub_self] at h2'
    cases h1
    cases h2'
    exact TokIn.mono ⟨A,c,rfl,HC.out,HA.out,HAP.out⟩ hkp4 (fun _ hf=>hf) hF
  mrow:=ownsRow_block h.mrow fun g hg=>by
   have hgl:=h.lt g (h.fm g hg)
   exact hold g hgl (fun e=>own_blk_ne h.mrow h.blk (by decide) (by rw [hg,e])) (fun e=>own_row_ne HR.out h.mrow (by decide) g e hg) (fun e=>own_map_ne h.mrow h.tmap (by rw [hg,e]))
  fits:=h.fits
  tmap:=by
   show tokAt w4 bt (V.tok++[x]).length _
   rw [hlen]
   exact HO4.out
  pmap:=ownsMap_block h.pmap (hold bp (h.lt bp h.fp) (h.blk.ne_map h.pmap).symm (own_map_ne HR.out h.pmap) h.nob.symm)
  isT:=by
   have:=h.isT.put HNEW.out
   rw [← HK.out] at this
   exact this
  isP:=h.isP
  nob:=h.nob
  fb:=.inl h.fb
  ft:=.inl h.ft
  fp:=.inl h.fp
  fv:=hloc
  fm:=fun g hg=>.inl (h.fm g hg)
  lt:=fun i hi=>by
   rcases hi with hi | hi
   ·have:=h.lt i hi;omega
   ·exact hi.2 }
theorem step_mapUpdate_own {H:Type} {P:Program} (w:World) {ops:Array Oper} {o:Oper} {a:Act} {K':Act→World→Prop} {Q:Exit→Act→World→Prop} {E:Prop}
  (hg:o.guard=none) (m x v:Operand) (t:TypeId) (hop:o.op=Op.mapUpdate t m x v)
  (k e:TypeId) (K:Keyed P k) (ht:P.underlying t=some (.map k e)) (R:Value→Option (DataW H×List MemPlace)) (b n:Nat) (D:DataW H)
  (hm:a.eval m=.map (some b)) (hown:w.ownsMap P k R b n D) (hn:n < maxLen) (key val:Value) (kl:Lit) (hx:a.eval x=key) (hv:a.eval v=val) (hkey:keyOf P k key=some kl)
  (d:DataW H) (ps:List MemPlace) (hval:R val=some (d,ps))
  (hK:∀ w',w'.ownsMap P k R b (n+1) (D.put kl d)→w.grownBy w' (some b)→K' (a.put o.dst undef) w'):
  if Region.wanted o (yielded ops a.tmps)=true then Oper.wp P o a w K' Q else E:=by
 have hw:Region.wanted o (yielded ops a.tmps)=true:=by simp [Region.wanted,hg]
 rw [if_pos hw]
 obtain ⟨w',hrun,r1,r2⟩:=hown.update K ht hn hkey hval
 unfold Oper.wp
 simp [execOp,hop,hm,hx,hv,hrun,Result.andThen]
 exact hK w' r1 r2
theorem addMerge_any (w:World) (F:Nat→Prop) (b:Nat) (V:Voc) (hG:Grow w F b V) (m:Mg) (hm:mgFits m) (hl:V.mer.length < 1048576):
  Calls Tryz.prog 92 #[at0 b,.agg #[.int .i64 m.a,.int .i64 m.b,.int .i64 m.t]] w fun e w'=>e=.returned (.tuple #[])∧Grow w' (Own F w w') b ⟨V.tok,V.mer++[m]⟩∧Kept F w w':=by
 obtain ⟨tv,mv,bt,bp,svs,DT,DP,h⟩:=hG
 obtain ⟨At,ct,rfl⟩:=own_slice h.mrow
 obtain ⟨i0,hi,hz0,hz1,hz2⟩:=info_parts mergeInfo
 have HH:=Lib.hid h
 obtain ⟨k,hk⟩:∃ k,k=V.mer.length:=⟨_,rfl⟩
 have g1:=h.blk.cell 1
 simp only [lz0,lz1,lz2] at g1
 have hrow:=h.mrow
 have hfv:=h.fm
 have hnb:=own_blk_ne hrow h.blk (by decide)
 have hbk:=h.blk
 rw [← hk] at g1 hrow hl hfv hnb hbk
 have HR:=Lib.hid hrow
 have HFV:=Lib.hid hfv
 have HK:=Lib.hid hk
 have HNB:=Lib.hid hnb
 have b1:Below w.heap.size w (w.alloc (.cells #[.int .i64 m.a,.int .i64 m.b,.int .i64 m.t] 88)):=(Below.refl _ w).alloc (Nat.le_refl _) _
 obtain ⟨W1,hW1⟩:∃ W1,W1=w.alloc (.cells #[.int .i64 m.a,.int .i64 m.b,.int .i64 m.t] 88):=⟨_,rfl⟩
 have hpb:Blk W1 w.heap.size 88 #[.int .i64 m.a,.int .i64 m.b,.int .i64 m.t]:=by rw [hW1];exact Blk.new _ _ _
 rw [← hW1] at b1
 have g1':=(hbk.below b1 hbk.lt).cell 1
 simp only [lz0,lz1,lz2] at g1'
 have HBK:=Lib.hid (hbk.below b1 hbk.lt)
 have m0:=hpb.cell 0
 have m1:=hpb.cell 1
 have m2:=hpb.cell 2
 simp only [lz0,lz1,lz2] at m0 m1 m2
 have HW:=Lib.hid hW1
 have HPB:=Lib.hid hpb
 have HB1:=Lib.hid b1
 clear h hrow hk hfv hW1 hpb g1 hnb hbk b1
 unfold at0
 go_enter Tryz.func92,Tryz.ntmps92
 go_wp2_with fail
 rw [← HW.out]
 have hown2:(W1.drew.alloc (.cells #[.int .i64 m.a,.int .i64 m.b,.int .i64 m.t] 88)).ownsRow 0 88 3 (.slice At k ct) k (V.mer.flatMap mgCells):=by
  have h1:W1.ownsRow 0 88 3 (.slice At k ct) k (V.mer.flatMap mgCells):=by rw [HW.out];exact HR.out.alloc _
  exact World.ownsRow.alloc (w:=W1.drew) h1 _
 have hnews:∀ (j:Nat) (u:Value),(mgCells m)[j]?=some u→(W1.drew.alloc (.cells #[.int .i64 m.a,.int .i64 m.b,.int .i64 m.t] 88)).cell? ((⟨W1.heap.size,0,none⟩:Addr).add j)=some u:=fun j u hu=>by
  have hn:Blk (W1.drew.alloc (.cells #[.int .i64 m.a,.int .i64 m.b,.int .i64 m.t] 88)) W1.heap.size 88 #[.int .i64 m.a,.int .i64 m.b,.int .i64 m.t]:=Blk.new W1.drew _ _
  have e:(⟨W1.heap.size,0,none⟩:Addr).add j=⟨W1.heap.size,j,none⟩:=by unfold Addr.add;split <;> simp_all
  rw [e,hn.cell j]
  simpa [mgCells] using hu
 have hone:∀ u∈mgCells m,u.oneCell'=true:=by simp [mgCells,Value.oneCell']
 have HO2:=Lib.hid hown2
 have HNW:=Lib.hid hnews
 have g1'':=(HBK.out.alloc (.cells #[.int .i64 m.a,.int .i64 m.b,.int .i64 m.t] 88)).cell 1
 simp only [lz0,lz1,lz2] at g1''
 clear hown2 hnews
 go_region_law (refine step_append_lies _ rfl (.tmp 9) (.tmp 11) 28 rfl 0 88 i0 _ 3 24 Tryz.underlying28 hi hz0 hz1 hz2 rfl (by decide) (.slice At k ct) k _ rfl HO2.out ⟨W1.heap.size,0,none⟩ 1 1 (mgCells m) rfl rfl HNW.out hone (by omega) (by unfold maxLen;omega) (by omega) (Nat.zero_le _) _ rfl ?_;intro g cap w3 hown' hg2 hloc hlt2;have HB3:=Lib.hid (Blk.grown (Blk.alloc (w:=W1.drew) HBK.out (.cells #[.int .i64 m.a,.int .i64 m.b,.int .i64 m.t] 88)) hg2 (fun e=>HNB.out e.symm));have z1:=HB3.out.frozen 1;have e1:=HB3.out.cell 1;simp at e1;have HOWN:=Lib.hid hown';have HG2:=Lib.hid hg2;have HLOC:=Lib.hid hloc;have HLT2:=Lib.hid hlt2;clear hown' hg2 hloc hlt2)
 ·have h:=HH.out
  have hg2:=HG2.out
  have hown:=HOWN.out
  have hlt:=h.lt
  have hW1s:W1.heap.size=w.heap.size+1:=by rw [HW.out];simp
  have hsz:w.heap.size+2≤w3.heap.size:=Nat.le_trans (by show _≤(W1.heap.push _).size;simp;omega) hg2.size
  have hkp:Kept F w (w3.setCell ⟨b,1,none⟩ (.slice (some ⟨g,0,none⟩) (k+1) cap)):=(((((Kept.below HB1.out).drew.alloc _).grown hg2 (fun g hg=>.inl (HFV.out g hg)))).setCell (.inl h.fb) _)
  have hcell:∀ i,i < w.heap.size+1→i≠b→(Value.slice At k ct).ownBlock≠some i→(w3.setCell ⟨b,1,none⟩ (.slice (some ⟨g,0,none⟩) (k+1) cap)).heap[i]?=W1.heap[i]?:=fun i hi h1 h2=>by
   rw [heap_setCell_other _ _ _ h1,hg2.block i (by show _ < (W1.heap.push _).size;simp;omega) (fun e=>h2 e.symm)]
   exact Below.heap_alloc W1 _ _ (by omega)
  have hblk:Blk (w3.setCell ⟨b,1,none⟩ (.slice (some ⟨g,0,none⟩) (k+1) cap)) b 221 #[tv,(.slice (some ⟨g,0,none⟩) (k+1) cap),.map (some bt),.map (some bp)]:=by
   have:=HB3.out.set_ 1 (.slice (some ⟨g,0,none⟩) (k+1) cap)
   simpa using this
  have nbp:b≠bp:=h.blk.ne_map h.pmap
  have ntp:(Value.slice At k ct).ownBlock≠some bp:=own_map_ne HR.out h.pmap
  have hrow3:(w3.setCell ⟨b,1,none⟩ (.slice (some ⟨g,0,none⟩) (k+1) cap)).ownsRow 0 88 3 (.slice (some ⟨g,0,none⟩) (k+1) cap) (k+1) (V.mer.flatMap mgCells++mgCells m):=
   ownsRow_block hown fun g hg=>heap_setCell_other _ _ _ fun e=>own_blk_ne hown HB3.out (by decide) (by rw [hg,e])
  have hsz3:(w3.setCell ⟨b,1,none⟩ (.slice (some ⟨g,0,none⟩) (k+1) cap)).heap.size=w3.heap.size:=size_setCell' _ _ _
  obtain ⟨w4,hw4⟩:∃ w4,w4=w3.setCell ⟨b,1,none⟩ (.slice (some ⟨g,0,none⟩) (k+1) cap):=⟨_,rfl⟩
  rw [← hw4] at hkp hcell hblk hrow3 hsz3 ⊢
  have hblt:b < w.heap.size:=hlt b h.fb
  have hnw:(Value.slice At k ct).ownBlock≠some w.heap.size:=fun e=>by have:=hlt _ (HFV.out _ e);omega
  have hpm:pairAt w4 bp k DP:=by rw [HK.out];exact ownsMap_block h.pmap ((hcell bp (by have:=hlt bp h.fp;omega) nbp.symm ntp).trans (HB1.out.block bp (hlt bp h.fp)))
  have hpb:Blk w4 w.heap.size 88 #[.int .i64 m.a,.int .i64 m.b,.int .i64 m.t]:=HPB.out.same (hcell _ (by omega) (by omega) hnw)
  have q0:=hblk.cell 3
  have q1:=hpb.cell 0
  have q2:=hpb.cell 1
  have q3:=hpb.cell 2
  simp only [lz0,lz1,lz2] at q0 q1 q2 q3
  have HW4:=Lib.hid hw4
  have HKP:=Lib.hid hkp
  have HCELL:=Lib.hid hcell
  have HBLK:=Lib.hid hblk
  have HROW3:=Lib.hid hrow3
  have HPM:=Lib.hid hpm
  have HNBP:=Lib.hid nbp
  have HNTP:=Lib.hid ntp
  have HLT:=Lib.hid hlt
  have HSZ:=Lib.hid hsz
  have HSZ3:=Lib.hid hsz3
  have HBLT:=Lib.hid hblt
  clear h hg2 hown hlt hsz hkp hcell hblk nbp ntp hrow3 hw4 hpm z1 e1 hsz3 hpb hW1s hnw hblt g1' g1'' m0 m1 m2 hone
  go_wp2_with fail
  refine wp_region_held_drew (S:=fun w'=>w'.cell? ⟨b,3,none⟩=some (.map (some bp))∧w'.cell? ⟨w.heap.size,0,none⟩=some (.int .i64 m.a)∧w'.cell? ⟨w.heap.size,1,none⟩=some (.int .i64 m.b)∧w'.cell? ⟨w.heap.size,2,none⟩=some (.int .i64 m.t)) (by kernel_rfl) ?_ (fun hHeld=>?_)
  ·exact ⟨q0,q1,q2,q3⟩
  refine wpAnyH_take (i:=0) (oi:=?oiA0) (v:=?vA0) ?hiA0 (by kernel_rfl) (by kernel_rfl) (by kernel_rfl) ?hQA0 (Or.inl ⟨?hwA0,?hyA0⟩) (by assumption) ?restA0
  case hiA0=>(first | (simp only [lz0,lz1,lz2];rfl) | rfl)
  case hQA0=>exact fun _ _ _ h=>h
  case hwA0=>rfl
  case hyA0=>((intro w hSw;go_simp);first | done | with_reducible rfl)
  try simp only [Act.put,lz3,lz4,lz5]
  refine wpAnyH_take (i:=1) (oi:=?oiA1) (v:=?vA1) ?hiA1 (by kernel_rfl) (by kernel_rfl) (by kernel_rfl) ?hQA1 (Or.inl ⟨?hwA1,?hyA1⟩) (by assumption) ?restA1
  case hiA1=>(first | (simp only [lz0,lz1,lz2];rfl) | rfl)
  case hQA1=>exact fun _ _ _ h=>h
  case hwA1=>rfl
  case hyA1=>((intro w hSw;go_simp);first | done | with_reducible rfl)
  try simp only [Act.put,lz3,lz4,lz5]
  refine wpAnyH_take (i:=2) (oi:=?oiA2) (v:=?vA2) ?hiA2 (by kernel_rfl) (by kernel_rfl) (by kernel_rfl) ?hQA2 (Or.inl ⟨?hwA2,?hyA2⟩) (by assumption) ?restA2
  case hiA2=>(first | (simp only [lz0,lz1,lz2];rfl) | rfl)
  case hQA2=>exact fun _ _ _ h=>h
  case hwA2=>rfl
  case hyA2=>((intro w hSw;go_simp);first | done | with_reducible rfl)
  try simp only [Act.put,lz3,lz4,lz5]
  refine wpAnyH_take (i:=3) (oi:=?oiA3) (v:=?vA3) ?hiA3 (by kernel_rfl) (by kernel_rfl) (by kernel_rfl) ?hQA3 (Or.inl ⟨?hwA3,?hyA3⟩) (by assumption) ?restA3
  case hiA3=>(first | (simp only [lz0,lz1,lz2];rfl) | rfl)
  case hQA3=>exact fun _ _ _ h=>h
  case hwA3=>rfl
  case hyA3=>((intro w hSw;go_simp);first | done | with_reducible rfl)
  try simp only [Act.put,lz3,lz4,lz5]
  refine wpAnyH_take (i:=4) (oi:=?oiA4) (v:=?vA4) ?hiA4 (by kernel_rfl) (by kernel_rfl) (by kernel_rfl) ?hQA4 (Or.inl ⟨?hwA4,?hyA4⟩) (by assumption) ?restA4
  case hiA4=>(first | (simp only [lz0,lz1,lz2];rfl) | rfl)
  case hQA4=>exact fun _ _ _ h=>h
  case hwA4=>rfl
  case hyA4=>((intro w hSw;go_simp);first | done | with_reducible rfl)
  try simp only [Act.put,lz3,lz4,lz5]
  refine wpAnyH_take (i:=6) (oi:=?oiA6) (v:=?vA6) ?hiA6 (by kernel_rfl) (by kernel_rfl) (by kernel_rfl) ?hQA6 (Or.inl ⟨?hwA6,?hyA6⟩) (by assumption) ?restA6
  case hiA6=>(first | (simp only [lz0,lz1,lz2];rfl) | rfl)
  case hQA6=>exact fun _ _ _ h=>h
  case hwA6=>rfl
  case hyA6=>((intro w hSw;go_simp);first | done | with_reducible rfl)
  try simp only [Act.put,lz3,lz4,lz5]
  refine wpAnyH_ready (rs:=[5]) (by kernel_rfl) (by simp) ?_
  refine AllReadyH.cons (o:=?oAc) ?hcAc ?stAc AllReadyH.nil
  case hcAc=>(simp only [lz0,lz1,lz2];rfl)
  intro K hK
  go_simp
  refine (pairOf_any _ m.a m.b m.t).mono ?_
  rintro e w5 ⟨rfl,hb5'⟩
  have hb5:Below w4.heap.size w4 w5:=below_then (Below.refl _ w4).drew hb5' (Nat.le_refl _)
  have hS5:(fun w'=>w'.cell? ⟨b,3,none⟩=some (.map (some bp))∧w'.cell? ⟨w.heap.size,0,none⟩=some (.int .i64 m.a)∧w'.cell? ⟨w.heap.size,1,none⟩=some (.int .i64 m.b)∧w'.cell? ⟨w.heap.size,2,none⟩=some (.int .i64 m.t)) w5:=⟨below_cells hb5 q0,below_cells hb5 q1,below_cells hb5 q2,below_cells hb5 q3⟩
  have HB5:=Lib.hid hb5
  clear hb5 hb5'
  go_wp2_with fail
  refine hK.out _ _ hS5 (fun _=>?_)
  clear hK K
  try simp only [Act.put,lz3,lz4,lz5]
  refine wpAnyH_ready (rs:=[7]) (by kernel_rfl) (by simp) ?_
  refine AllReadyH.cons (o:=?oAd) ?hcAd ?stAd AllReadyH.nil
  case hcAd=>(simp only [lz0,lz1,lz2];rfl)
  intro K hK
  refine step_mapUpdate_own _ rfl _ _ _ 219 rfl 73 150 pairLaw Tryz.underlying219 unitElem bp k DP rfl (ownsMap_block HPM.out (HB5.out.block bp HPM.out.lt)) (by unfold maxLen;omega) _ _ (pk m.a m.b) rfl rfl (keyOf_pairs hm.1 hm.2.1) (.agg []) [] unitElem_mk ?_
  intro w6 hown6 hg6
  have hbb:∀ i,i < w4.heap.size→i≠bp→w6.heap[i]?=w4.heap[i]?:=fun i h1 h2=>(hg6.block i (by have:=HB5.out.size;omega) (fun e=>h2 (Option.some.inj e))).trans (HB5.out.block i h1)
  have hs6:w4.heap.size≤w6.heap.size:=Nat.le_trans HB5.out.size hg6.size
  have hwp:w.heap.size≠bp:=fun e=>by have:=HLT.out bp HH.out.fp;omega
  have hw4s:w.heap.size < w4.heap.size:=by have:=HSZ.out;have:=HSZ3.out;omega
  have hS6:(fun w'=>w'.cell? ⟨b,3,none⟩=some (.map (some bp))∧w'.cell? ⟨w.heap.size,0,none⟩=some (.int .i64 m.a)∧w'.cell? ⟨w.heap.size,1,none⟩=some (.int .i64 m.b)∧w'.cell? ⟨w.heap.size,2,none⟩=some (.int .i64 m.t)) w6:=⟨(World.cell?_of_block (a:=⟨b,3,none⟩) (hbb b HBLK.out.lt HNBP.out)).trans q0,(World.cell?_of_block (a:=⟨w.heap.size,0,none⟩) (hbb _ hw4s hwp)).trans q1,(World.cell?_of_block (a:=⟨w.heap.size,1,none⟩) (hbb _ hw4s hwp)).trans q2,(World.cell?_of_block (a:=⟨w.heap.size,2,none⟩) (hbb _ hw4s hwp)).trans q3⟩
  have HO6:=Lib.hid hown6
  have hkp6:Kept F w w6:=(HKP.out.trans (F':=fun _=>False) (Kept.below HB5.out) (fun _ _ h=>h.elim)).grown hg6 (fun g hg=>by cases hg;exact .inl HH.out.fp)
  have HKP6:=Lib.hid hkp6
  have HBB:=Lib.hid hbb
  have HS6:=Lib.hid hs6
  have HW4S:=Lib.hid hw4s
  clear hown6 hg6 hbb hs6 hkp6 hwp hw4s
  refine hK.out _ _ hS6 (fun _=>?_)
  clear hK K
  refine wpAnyH_done (by kernel_rfl) ?_ _
  go_wp2
  go_end0
  have h:=HH.out
  have hF:∀ i,Own F w w6 i→F i∨w.heap.size≤i:=fun i hi=>hi.imp id (·.1)
  have hpm4:w4.ownsMap Tryz.prog 73 unitElem bp k DP:=HPM.out
  have hlen:(V.mer++[m]).length=k+1:=by rw [HK.out];simp
  have hold:∀ i,i < w.heap.size→i≠b→(Value.slice At k ct).ownBlock≠some i→i≠bp→w6.heap[i]?=w.heap[i]?:=fun i h0 h1 h2 h3=>((HBB.out i (by have:=HW4S.out;omega) h3).trans (HCELL.out i (by omega) h1 h2)).trans (HB1.out.block i h0)
  have hrow:tv.ownBlock=tv.ownBlock:=rfl
  refine ⟨rfl,⟨tv,(.slice (some ⟨g,0,none⟩) (k+1) cap),bt,bp,svs,DT,DP.put (pk m.a m.b) (.agg []),?_⟩,HKP6.out⟩
  exact {
   blk:=HBLK.out.same (HBB.out b HBLK.out.lt HNBP.out)
   trow:=ownsRow_block h.trow fun g' hg=>by
    have hgl:=h.lt g' (h.fv g' hg)
    exact hold g' hgl (fun e=>own_blk_ne h.trow h.blk (by decide) (by rw [hg,e])) (fun e=>own_row_ne HR.out h.trow (by decide) g' e hg) (fun e=>own_map_ne h.trow h.pmap (by rw [hg,e]))
   toks:=fun i sv y h1 h2=>(h.toks i sv y h1 h2).mono HKP6.out (fun _ hf=>hf) hF
   mrow:=by
    show w6.ownsRow 0 88 3 _ (V.mer++[m]).length ((V.mer++[m]).flatMap mgCells)
    rw [hlen,List.flatMap_append,List.flatMap_singleton]
    exact ownsRow_block HROW3.out fun g' hg=>HBB.out g' (HROW3.out.lt g' hg).2 fun e=>own_map_ne HROW3.out hpm4 (by rw [hg,e])
   fits:=fun m' hm'=>by
    rcases List.mem_append.1 hm' with h1 | h1
    ·exact h.fits m' h1
    ·rw [List.mem_singleton.1 h1];exact hm
   tmap:=ownsMap_block h.tmap (hold bt (h.lt bt h.ft) (h.blk.ne_map h.tmap).symm (own_map_ne HR.out h.tmap) h.nob)
   pmap:=by
    show pairAt w6 bp (V.mer++[m]).length _
    rw [hlen]
    exact HO6.out
   isT:=h.isT
   isP:=h.isP.put hm.1 hm.2.1 _
   nob:=h.nob
   fb:=.inl h.fb
   ft:=.inl h.ft
   fp:=.inl h.fp
   fv:=fun g' hg=>.inl (h.fv g' hg)
   fm:=fun g' hg=>by
    have hl:=HLOC.out
    have hlt:=(HROW3.out.lt g' hg).2
    have e:g=g':=by simpa [Value.ownBlock] using hg
    subst e
    rcases hl with hl | hl
    ·exact .inl (HFV.out g hl)
    ·have h1:=HS6.out
     have h2:W1.heap.size=w.heap.size+1:=by rw [HW.out];simp
     have h3:(W1.alloc (.cells #[.int .i64 m.a,.int .i64 m.b,.int .i64 m.t] 88)).drew.heap.size=W1.heap.size+1:=by show (W1.heap.push _).size=_;simp
     have h4:g=W1.heap.size+1:=hl.trans h3
     exact .inr ⟨by omega,by omega⟩
   lt:=fun i hi=>by
    rcases hi with hi | hi
    ·have:=h.lt i hi
     have h1:=HS6.out
     have h2:=HW4S.out
     omega
    ·exact hi.2 }
 ·have h:=HH.out
  have hg2:=HG2.out
  have hown:=HOWN.out
  have hlt:=h.lt
  have hW1s:W1.heap.size=w.heap.size+1:=by rw [HW.out];simp
  have hsz:w.heap.size+2≤w3.heap.size:=Nat.le_trans (by show _≤(W1.heap.push _).size;simp;omega) hg2.size
  have hkp:Kept F w (w3.setCell ⟨b,1,none⟩ (.slice (some ⟨g,0,none⟩) (k+1) cap)):=(((((Kept.below HB1.out).drew.alloc _).grown hg2 (fun g hg=>.inl (HFV.out g hg)))).setCell (.inl h.fb) _)
  have hcell:∀ i,i < w.heap.size+1→i≠b→(Value.slice At k ct).ownBlock≠some i→(w3.setCell ⟨b,1,none⟩ (.slice (some ⟨g,0,none⟩) (k+1) cap)).heap[i]?=W1.heap[i]?:=fun i hi h1 h2=>by
   rw [heap_setCell_other _ _ _ h1,hg2.block i (by show _ < (W1.heap.push _).size;simp;omega) (fun e=>h2 e.symm)]
   exact Below.heap_alloc W1 _ _ (by omega)
  have hblk:Blk (w3.setCell ⟨b,1,none⟩ (.slice (some ⟨g,0,none⟩) (k+1) cap)) b 221 #[tv,(.slice (some ⟨g,0,none⟩) (k+1) cap),.map (some bt),.map (some bp)]:=by
   have:=HB3.out.set_ 1 (.slice (some ⟨g,0,none⟩) (k+1) cap)
   simpa using this
  have nbp:b≠bp:=h.blk.ne_map h.pmap
  have ntp:(Value.slice At k ct).ownBlock≠some bp:=own_map_ne HR.out h.pmap
  have hrow3:(w3.setCell ⟨b,1,none⟩ (.slice (some ⟨g,0,none⟩) (k+1) cap)).ownsRow 0 88 3 (.slice (some ⟨g,0,none⟩) (k+1) cap) (k+1) (V.mer.flatMap mgCells++mgCells m):=
   ownsRow_block hown fun g hg=>heap_setCell_other _ _ _ fun e=>own_blk_ne hown HB3.out (by decide) (by rw [hg,e])
  have hsz3:(w3.setCell ⟨b,1,none⟩ (.slice (some ⟨g,0,none⟩) (k+1) cap)).heap.size=w3.heap.size:=size_setCell' _ _ _
  obtain ⟨w4,hw4⟩:∃ w4,w4=w3.setCell ⟨b,1,none⟩ (.slice (some ⟨g,0,none⟩) (k+1) cap):=⟨_,rfl⟩
  rw [← hw4] at hkp hcell hblk hrow3 hsz3 ⊢
  have hblt:b < w.heap.size:=hlt b h.fb
  have hnw:(Value.slice At k ct).ownBlock≠some w.heap.size:=fun e=>by have:=hlt _ (HFV.out _ e);omega
  have hpm:pairAt w4 bp k DP:=by rw [HK.out];exact ownsMap_block h.pmap ((hcell bp (by have:=hlt bp h.fp;omega) nbp.symm ntp).trans (HB1.out.block bp (hlt bp h.fp)))
  have hpb:Blk w4 w.heap.size 88 #[.int .i64 m.a,.int .i64 m.b,.int .i64 m.t]:=HPB.out.same (hcell _ (by omega) (by omega) hnw)
  have q0:=hblk.cell 3
  have q1:=hpb.cell 0
  have q2:=hpb.cell 1
  have q3:=hpb.cell 2
  simp only [lz0,lz1,lz2] at q0 q1 q2 q3
  have HW4:=Lib.hid hw4
  have HKP:=Lib.hid hkp
  have HCELL:=Lib.hid hcell
  have HBLK:=Lib.hid hblk
  have HROW3:=Lib.hid hrow3
  have HPM:=Lib.hid hpm
  have HNBP:=Lib.hid nbp
  have HNTP:=Lib.hid ntp
  have HLT:=Lib.hid hlt
  have HSZ:=Lib.hid hsz
  have HSZ3:=Lib.hid hsz3
  have HBLT:=Lib.hid hblt
  clear h hg2 hown hlt hsz hkp hcell hblk nbp ntp hrow3 hw4 hpm z1 e1 hsz3 hpb hW1s hnw hblt g1' g1'' m0 m1 m2 hone
  go_wp2_with fail
  refine wp_region_held_drew (S:=fun w'=>w'.cell? ⟨b,3,none⟩=some (.map (some bp))∧w'.cell? ⟨w.heap.size,0,none⟩=some (.int .i64 m.a)∧w'.cell? ⟨w.heap.size,1,none⟩=some (.int .i64 m.b)∧w'.cell? ⟨w.heap.size,2,none⟩=some (.int .i64 m.t)) (by kernel_rfl) ?_ (fun hHeld=>?_)
  ·exact ⟨q0,q1,q2,q3⟩
  refine wpAnyH_take (i:=0) (oi:=?oiB0) (v:=?vB0) ?hiB0 (by kernel_rfl) (by kernel_rfl) (by kernel_rfl) ?hQB0 (Or.inl ⟨?hwB0,?hyB0⟩) (by assumption) ?restB0
  case hiB0=>(first | (simp only [lz0,lz1,lz2];rfl) | rfl)
  case hQB0=>exact fun _ _ _ h=>h
  case hwB0=>rfl
  case hyB0=>((intro w hSw;go_simp);first | done | with_reducible rfl)
  try simp only [Act.put,lz3,lz4,lz5]
  refine wpAnyH_take (i:=1) (oi:=?oiB1) (v:=?vB1) ?hiB1 (by kernel_rfl) (by kernel_rfl) (by kernel_rfl) ?hQB1 (Or.inl ⟨?hwB1,?hyB1⟩) (by assumption) ?restB1
  case hiB1=>(first | (simp only [lz0,lz1,lz2];rfl) | rfl)
  case hQB1=>exact fun _ _ _ h=>h
  case hwB1=>rfl
  case hyB1=>((intro w hSw;go_simp);first | done | with_reducible rfl)
  try simp only [Act.put,lz3,lz4,lz5]
  refine wpAnyH_take (i:=2) (oi:=?oiB2) (v:=?vB2) ?hiB2 (by kernel_rfl) (by kernel_rfl) (by kernel_rfl) ?hQB2 (Or.inl ⟨?hwB2,?hyB2⟩) (by assumption) ?restB2
  case hiB2=>(first | (simp only [lz0,lz1,lz2];rfl) | rfl)
  case hQB2=>exact fun _ _ _ h=>h
  case hwB2=>rfl
  case hyB2=>((intro w hSw;go_simp);first | done | with_reducible rfl)
  try simp only [Act.put,lz3,lz4,lz5]
  refine wpAnyH_take (i:=3) (oi:=?oiB3) (v:=?vB3) ?hiB3 (by kernel_rfl) (by kernel_rfl) (by kernel_rfl) ?hQB3 (Or.inl ⟨?hwB3,?hyB3⟩) (by assumption) ?restB3
  case hiB3=>(first | (simp only [lz0,lz1,lz2];rfl) | rfl)
  case hQB3=>exact fun _ _ _ h=>h
  case hwB3=>rfl
  case hyB3=>((intro w hSw;go_simp);first | done | with_reducible rfl)
  try simp only [Act.put,lz3,lz4,lz5]
  refine wpAnyH_take (i:=4) (oi:=?oiB4) (v:=?vB4) ?hiB4 (by kernel_rfl) (by kernel_rfl) (by kernel_rfl) ?hQB4 (Or.inl ⟨?hwB4,?hyB4⟩) (by assumption) ?restB4
  case hiB4=>(first | (simp only [lz0,lz1,lz2];rfl) | rfl)
  case hQB4=>exact fun _ _ _ h=>h
  case hwB4=>rfl
  case hyB4=>((intro w hSw;go_simp);first | done | with_reducible rfl)
  try simp only [Act.put,lz3,lz4,lz5]
  refine wpAnyH_take (i:=6) (oi:=?oiB6) (v:=?vB6) ?hiB6 (by kernel_rfl) (by kernel_rfl) (by kernel_rfl) ?hQB6 (Or.inl ⟨?hwB6,?hyB6⟩) (by assumption) ?restB6
  case hiB6=>(first | (simp only [lz0,lz1,lz2];rfl) | rfl)
  case hQB6=>exact fun _ _ _ h=>h
  case hwB6=>rfl
  case hyB6=>((intro w hSw;go_simp);first | done | with_reducible rfl)
  try simp only [Act.put,lz3,lz4,lz5]
  refine wpAnyH_ready (rs:=[5]) (by kernel_rfl) (by simp) ?_
  refine AllReadyH.cons (o:=?oBc) ?hcBc ?stBc AllReadyH.nil
  case hcBc=>(simp only [lz0,lz1,lz2];rfl)
  intro K hK
  go_simp
  refine (pairOf_any _ m.a m.b m.t).mono ?_
  rintro e w5 ⟨rfl,hb5'⟩
  have hb5:Below w4.heap.size w4 w5:=below_then (Below.refl _ w4).drew hb5' (Nat.le_refl _)
  have hS5:(fun w'=>w'.cell? ⟨b,3,none⟩=some (.map (some bp))∧w'.cell? ⟨w.heap.size,0,none⟩=some (.int .i64 m.a)∧w'.cell? ⟨w.heap.size,1,none⟩=some (.int .i64 m.b)∧w'.cell? ⟨w.heap.size,2,none⟩=some (.int .i64 m.t)) w5:=⟨below_cells hb5 q0,below_cells hb5 q1,below_cells hb5 q2,below_cells hb5 q3⟩
  have HB5:=Lib.hid hb5
  clear hb5 hb5'
  go_wp2_with fail
  refine hK.out _ _ hS5 (fun _=>?_)
  clear hK K
  try simp only [Act.put,lz3,lz4,lz5]
  refine wpAnyH_ready (rs:=[7]) (by kernel_rfl) (by simp) ?_
  refine AllReadyH.cons (o:=?oBd) ?hcBd ?stBd AllReadyH.nil
  case hcBd=>(simp only [lz0,lz1,lz2];rfl)
  intro K hK
  refine step_mapUpdate_own _ rfl _ _ _ 219 rfl 73 150 pairLaw Tryz.underlying219 unitElem bp k DP rfl (ownsMap_block HPM.out (HB5.out.block bp HPM.out.lt)) (by unfold maxLen;omega) _ _ (pk m.a m.b) rfl rfl (keyOf_pairs hm.1 hm.2.1) (.agg []) [] unitElem_mk ?_
  intro w6 hown6 hg6
  have hbb:∀ i,i < w4.heap.size→i≠bp→w6.heap[i]?=w4.heap[i]?:=fun i h1 h2=>(hg6.block i (by have:=HB5.out.size;omega) (fun e=>h2 (Option.some.inj e))).trans (HB5.out.block i h1)
  have hs6:w4.heap.size≤w6.heap.size:=Nat.le_trans HB5.out.size hg6.size
  have hwp:w.heap.size≠bp:=fun e=>by have:=HLT.out bp HH.out.fp;omega
  have hw4s:w.heap.size < w4.heap.size:=by have:=HSZ.out;have:=HSZ3.out;omega
  have hS6:(fun w'=>w'.cell? ⟨b,3,none⟩=some (.map (some bp))∧w'.cell? ⟨w.heap.size,0,none⟩=some (.int .i64 m.a)∧w'.cell? ⟨w.heap.size,1,none⟩=some (.int .i64 m.b)∧w'.cell? ⟨w.heap.size,2,none⟩=some (.int .i64 m.t)) w6:=⟨(World.cell?_of_block (a:=⟨b,3,none⟩) (hbb b HBLK.out.lt HNBP.out)).trans q0,(World.cell?_of_block (a:=⟨w.heap.size,0,none⟩) (hbb _ hw4s hwp)).trans q1,(World.cell?_of_block (a:=⟨w.heap.size,1,none⟩) (hbb _ hw4s hwp)).trans q2,(World.cell?_of_block (a:=⟨w.heap.size,2,none⟩) (hbb _ hw4s hwp)).trans q3⟩
  have HO6:=Lib.hid hown6
  have hkp6:Kept F w w6:=(HKP.out.trans (F':=fun _=>False) (Kept.below HB5.out) (fun _ _ h=>h.elim)).grown hg6 (fun g hg=>by cases hg;exact .inl HH.out.fp)
  have HKP6:=Lib.hid hkp6
  have HBB:=Lib.hid hbb
  have HS6:=Lib.hid hs6
  have HW4S:=Lib.hid hw4s
  clear hown6 hg6 hbb hs6 hkp6 hwp hw4s
  refine hK.out _ _ hS6 (fun _=>?_)
  clear hK K
  refine wpAnyH_done (by kernel_rfl) ?_ _
  go_wp2
  go_end0
  have h:=HH.out
  have hF:∀ i,Own F w w6 i→F i∨w.heap.size≤i:=fun i hi=>hi.imp id (·.1)
  have hpm4:w4.ownsMap Tryz.prog 73 unitElem bp k DP:=HPM.out
  have hlen:(V.mer++[m]).length=k+1:=by rw [HK.out];simp
  have hold:∀ i,i < w.heap.size→i≠b→(Value.slice At k ct).ownBlock≠some i→i≠bp→w6.heap[i]?=w.heap[i]?:=fun i h0 h1 h2 h3=>((HBB.out i (by have:=HW4S.out;omega) h3).trans (HCELL.out i (by omega) h1 h2)).trans (HB1.out.block i h0)
  have hrow:tv.ownBlock=tv.ownBlock:=rfl
  refine ⟨rfl,⟨tv,(.slice (some ⟨g,0,none⟩) (k+1) cap),bt,bp,svs,DT,DP.put (pk m.a m.b) (.agg []),?_⟩,HKP6.out⟩
  exact {
   blk:=HBLK.out.same (HBB.out b HBLK.out.lt HNBP.out)
   trow:=ownsRow_block h.trow fun g' hg=>by
    have hgl:=h.lt g' (h.fv g' hg)
    exact hold g' hgl (fun e=>own_blk_ne h.trow h.blk (by decide) (by rw [hg,e])) (fun e=>own_row_ne HR.out h.trow (by decide) g' e hg) (fun e=>own_map_ne h.trow h.pmap (by rw [hg,e]))
   toks:=fun i sv y h1 h2=>(h.toks i sv y h1 h2).mono HKP6.out (fun _ hf=>hf) hF
   mrow:=by
    show w6.ownsRow 0 88 3 _ (V.mer++[m]).length ((V.mer++[m]).flatMap mgCells)
    rw [hlen,List.flatMap_append,List.flatMap_singleton]
    exact ownsRow_block HROW3.out fun g' hg=>HBB.out g' (HROW3.out.lt g' hg).2 fun e=>own_map_ne HROW3.out hpm4 (by rw [hg,e])
   fits:=fun m' hm'=>by
    rcases List.mem_append.1 hm' with h1 | h1
    ·exact h.fits m' h1
    ·rw [List.mem_singleton.1 h1];exact hm
   tmap:=ownsMap_block h.tmap (hold bt (h.lt bt h.ft) (h.blk.ne_map h.tmap).symm (own_map_ne HR.out h.tmap) h.nob)
   pmap:=by
    show pairAt w6 bp (V.mer++[m]).length _
    rw [hlen]
    exact HO6.out
   isT:=h.isT
   isP:=h.isP.put hm.1 hm.2.1 _
   nob:=h.nob
   fb:=.inl h.fb
   ft:=.inl h.ft
   fp:=.inl h.fp
   fv:=fun g' hg=>.inl (h.fv g' hg)
   fm:=fun g' hg=>by
    have hl:=HLOC.out
    have hlt:=(HROW3.out.lt g' hg).2
    have e:g=g':=by simpa [Value.ownBlock] using hg
    subst e
    rcases hl with hl | hl
    ·exact .inl (HFV.out g hl)
    ·have h1:=HS6.out
     have h2:W1.heap.size=w.heap.size+1:=by rw [HW.out];simp
     have h3:(W1.alloc (.cells #[.int .i64 m.a,.int .i64 m.b,.int .i64 m.t] 88)).drew.heap.size=W1.heap.size+1:=by show (W1.heap.push _).size=_;simp
     have h4:g=W1.heap.size+1:=hl.trans h3
     exact .inr ⟨by omega,by omega⟩
   lt:=fun i hi=>by
    rcases hi with hi | hi
    ·have:=h.lt i hi
     have h1:=HS6.out
     have h2:=HW4S.out
     omega
    ·exact hi.2 }
 ·have h:=HH.out
  have hg2:=HG2.out
  have hown:=HOWN.out
  have hlt:=h.lt
  have hW1s:W1.heap.size=w.heap.size+1:=by rw [HW.out];simp
  have hsz:w.heap.size+2≤w3.heap.size:=Nat.le_trans (by show _≤(W1.heap.push _).size;simp;omega) hg2.size
  have hkp:Kept F w (w3.setCell ⟨b,1,none⟩ (.slice (some ⟨g,0,none⟩) (k+1) cap)):=(((((Kept.below HB1.out).drew.alloc _).grown hg2 (fun g hg=>.inl (HFV.out g hg)))).setCell (.inl h.fb) _)
  have hcell:∀ i,i < w.heap.size+1→i≠b→(Value.slice At k ct).ownBlock≠some i→(w3.setCell ⟨b,1,none⟩ (.slice (some ⟨g,0,none⟩) (k+1) cap)).heap[i]?=W1.heap[i]?:=fun i hi h1 h2=>by
   rw [heap_setCell_other _ _ _ h1,hg2.block i (by show _ < (W1.heap.push _).size;simp;omega) (fun e=>h2 e.symm)]
   exact Below.heap_alloc W1 _ _ (by omega)
  have hblk:Blk (w3.setCell ⟨b,1,none⟩ (.slice (some ⟨g,0,none⟩) (k+1) cap)) b 221 #[tv,(.slice (some ⟨g,0,none⟩) (k+1) cap),.map (some bt),.map (some bp)]:=by
   have:=HB3.out.set_ 1 (.slice (some ⟨g,0,none⟩) (k+1) cap)
   simpa using this
  have nbp:b≠bp:=h.blk.ne_map h.pmap
  have ntp:(Value.slice At k ct).ownBlock≠some bp:=own_map_ne HR.out h.pmap
  have hrow3:(w3.setCell ⟨b,1,none⟩ (.slice (some ⟨g,0,none⟩) (k+1) cap)).ownsRow 0 88 3 (.slice (some ⟨g,0,none⟩) (k+1) cap) (k+1) (V.mer.flatMap mgCells++mgCells m):=
   ownsRow_block hown fun g hg=>heap_setCell_other _ _ _ fun e=>own_blk_ne hown HB3.out (by decide) (by rw [hg,e])
  have hsz3:(w3.setCell ⟨b,1,none⟩ (.slice (some ⟨g,0,none⟩) (k+1) cap)).heap.size=w3.heap.size:=size_setCell' _ _ _
  obtain ⟨w4,hw4⟩:∃ w4,w4=w3.setCell ⟨b,1,none⟩ (.slice (some ⟨g,0,none⟩) (k+1) cap):=⟨_,rfl⟩
  rw [← hw4] at hkp hcell hblk hrow3 hsz3 ⊢
  have hblt:b < w.heap.size:=hlt b h.fb
  have hnw:(Value.slice At k ct).ownBlock≠some w.heap.size:=fun e=>by have:=hlt _ (HFV.out _ e);omega
  have hpm:pairAt w4 bp k DP:=by rw [HK.out];exact ownsMap_block h.pmap ((hcell bp (by have:=hlt bp h.fp;omega) nbp.symm ntp).trans (HB1.out.block bp (hlt bp h.fp)))
  have hpb:Blk w4 w.heap.size 88 #[.int .i64 m.a,.int .i64 m.b,.int .i64 m.t]:=HPB.out.same (hcell _ (by omega) (by omega) hnw)
  have q0:=hblk.cell 3
  have q1:=hpb.cell 0
  have q2:=hpb.cell 1
  have q3:=hpb.cell 2
  simp only [lz0,lz1,lz2] at q0 q1 q2 q3
  have HW4:=Lib.hid hw4
  have HKP:=Lib.hid hkp
  have HCELL:=Lib.hid hcell
  have HBLK:=Lib.hid hblk
  have HROW3:=Lib.hid hrow3
  have HPM:=Lib.hid hpm
  have HNBP:=Lib.hid nbp
  have HNTP:=Lib.hid ntp
  have HLT:=Lib.hid hlt
  have HSZ:=Lib.hid hsz
  have HSZ3:=Lib.hid hsz3
  have HBLT:=Lib.hid hblt
  clear h hg2 hown hlt hsz hkp hcell hblk nbp ntp hrow3 hw4 hpm z1 e1 hsz3 hpb hW1s hnw hblt g1' g1'' m0 m1 m2 hone
  go_wp2_with fail
  refine wp_region_held_drew (S:=fun w'=>w'.cell? ⟨b,3,none⟩=some (.map (some bp))∧w'.cell? ⟨w.heap.size,0,none⟩=some (.int .i64 m.a)∧w'.cell? ⟨w.heap.size,1,none⟩=some (.int .i64 m.b)∧w'.cell? ⟨w.heap.size,2,none⟩=some (.int .i64 m.t)) (by kernel_rfl) ?_ (fun hHeld=>?_)
  ·exact ⟨q0,q1,q2,q3⟩
  refine wpAnyH_take (i:=0) (oi:=?oiC0) (v:=?vC0) ?hiC0 (by kernel_rfl) (by kernel_rfl) (by kernel_rfl) ?hQC0 (Or.inl ⟨?hwC0,?hyC0⟩) (by assumption) ?restC0
  case hiC0=>(first | (simp only [lz0,lz1,lz2];rfl) | rfl)
  case hQC0=>exact fun _ _ _ h=>h
  case hwC0=>rfl
  case hyC0=>((intro w hSw;go_simp);first | done | with_reducible rfl)
  try simp only [Act.put,lz3,lz4,lz5]
  refine wpAnyH_take (i:=1) (oi:=?oiC1) (v:=?vC1) ?hiC1 (by kernel_rfl) (by kernel_rfl) (by kernel_rfl) ?hQC1 (Or.inl ⟨?hwC1,?hyC1⟩) (by assumption) ?restC1
  case hiC1=>(first | (simp only [lz0,lz1,lz2];rfl) | rfl)
  case hQC1=>exact fun _ _ _ h=>h
  case hwC1=>rfl
  case hyC1=>((intro w hSw;go_simp);first | done | with_reducible rfl)
  try simp only [Act.put,lz3,lz4,lz5]
  refine wpAnyH_take (i:=2) (oi:=?oiC2) (v:=?vC2) ?hiC2 (by kernel_rfl) (by kernel_rfl) (by kernel_rfl) ?hQC2 (Or.inl ⟨?hwC2,?hyC2⟩) (by assumption) ?restC2
  case hiC2=>(first | (simp only [lz0,lz1,lz2];rfl) | rfl)
  case hQC2=>exact fun _ _ _ h=>h
  case hwC2=>rfl
  case hyC2=>((intro w hSw;go_simp);first | done | with_reducible rfl)
  try simp only [Act.put,lz3,lz4,lz5]
  refine wpAnyH_take (i:=3) (oi:=?oiC3) (v:=?vC3) ?hiC3 (by kernel_rfl) (by kernel_rfl) (by kernel_rfl) ?hQC3 (Or.inl ⟨?hwC3,?hyC3⟩) (by assumption) ?restC3
  case hiC3=>(first | (simp only [lz0,lz1,lz2];rfl) | rfl)
  case hQC3=>exact fun _ _ _ h=>h
  case hwC3=>rfl
  case hyC3=>((intro w hSw;go_simp);first | done | with_reducible rfl)
  try simp only [Act.put,lz3,lz4,lz5]
  refine wpAnyH_take (i:=4) (oi:=?oiC4) (v:=?vC4) ?hiC4 (by kernel_rfl) (by kernel_rfl) (by kernel_rfl) ?hQC4 (Or.inl ⟨?hwC4,?hyC4⟩) (by assumption) ?restC4
  case hiC4=>(first | (simp only [lz0,lz1,lz2];rfl) | rfl)
  case hQC4=>exact fun _ _ _ h=>h
  case hwC4=>rfl
  case hyC4=>((intro w hSw;go_simp);first | done | with_reducible rfl)
  try simp only [Act.put,lz3,lz4,lz5]
  refine wpAnyH_take (i:=6) (oi:=?oiC6) (v:=?vC6) ?hiC6 (by kernel_rfl) (by kernel_rfl) (by kernel_rfl) ?hQC6 (Or.inl ⟨?hwC6,?hyC6⟩) (by assumption) ?restC6
  case hiC6=>(first | (simp only [lz0,lz1,lz2];rfl) | rfl)
  case hQC6=>exact fun _ _ _ h=>h
  case hwC6=>rfl
  case hyC6=>((intro w hSw;go_simp);first | done | with_reducible rfl)
  try simp only [Act.put,lz3,lz4,lz5]
  refine wpAnyH_ready (rs:=[5]) (by kernel_rfl) (by simp) ?_
  refine AllReadyH.cons (o:=?oCc) ?hcCc ?stCc AllReadyH.nil
  case hcCc=>(simp only [lz0,lz1,lz2];rfl)
  intro K hK
  go_simp
  refine (pairOf_any _ m.a m.b m.t).mono ?_
  rintro e w5 ⟨rfl,hb5'⟩
  have hb5:Below w4.heap.size w4 w5:=below_then (Below.refl _ w4).drew hb5' (Nat.le_refl _)
  have hS5:(fun w'=>w'.cell? ⟨b,3,none⟩=some (.map (some bp))∧w'.cell? ⟨w.heap.size,0,none⟩=some (.int .i64 m.a)∧w'.cell? ⟨w.heap.size,1,none⟩=some (.int .i64 m.b)∧w'.cell? ⟨w.heap.size,2,none⟩=some (.int .i64 m.t)) w5:=⟨below_cells hb5 q0,below_cells hb5 q1,below_cells hb5 q2,below_cells hb5 q3⟩
  have HB5:=Lib.hid hb5
  clear hb5 hb5'
  go_wp2_with fail
  refine hK.out _ _ hS5 (fun _=>?_)
  clear hK K
  try simp only [Act.put,lz3,lz4,lz5]
  refine wpAnyH_ready (rs:=[7]) (by kernel_rfl) (by simp) ?_
  refine AllReadyH.cons (o:=?oCd) ?hcCd ?stCd AllReadyH.nil
  case hcCd=>(simp only [lz0,lz1,lz2];rfl)
  intro K hK
  refine step_mapUpdate_own _ rfl _ _ _ 219 rfl 73 150 pairLaw Tryz.underlying219 unitElem bp k DP rfl (ownsMap_block HPM.out (HB5.out.block bp HPM.out.lt)) (by unfold maxLen;omega) _ _ (pk m.a m.b) rfl rfl (keyOf_pairs hm.1 hm.2.1) (.agg []) [] unitElem_mk ?_
  intro w6 hown6 hg6
  have hbb:∀ i,i < w4.heap.size→i≠bp→w6.heap[i]?=w4.heap[i]?:=fun i h1 h2=>(hg6.block i (by have:=HB5.out.size;omega) (fun e=>h2 (Option.some.inj e))).trans (HB5.out.block i h1)
  have hs6:w4.heap.size≤w6.heap.size:=Nat.le_trans HB5.out.size hg6.size
  have hwp:w.heap.size≠bp:=fun e=>by have:=HLT.out bp HH.out.fp;omega
  have hw4s:w.heap.size < w4.heap.size:=by have:=HSZ.out;have:=HSZ3.out;omega
  have hS6:(fun w'=>w'.cell? ⟨b,3,none⟩=some (.map (some bp))∧w'.cell? ⟨w.heap.size,0,none⟩=some (.int .i64 m.a)∧w'.cell? ⟨w.heap.size,1,none⟩=some (.int .i64 m.b)∧w'.cell? ⟨w.heap.size,2,none⟩=some (.int .i64 m.t)) w6:=⟨(World.cell?_of_block (a:=⟨b,3,none⟩) (hbb b HBLK.out.lt HNBP.out)).trans q0,(World.cell?_of_block (a:=⟨w.heap.size,0,none⟩) (hbb _ hw4s hwp)).trans q1,(World.cell?_of_block (a:=⟨w.heap.size,1,none⟩) (hbb _ hw4s hwp)).trans q2,(World.cell?_of_block (a:=⟨w.heap.size,2,none⟩) (hbb _ hw4s hwp)).trans q3⟩
  have HO6:=Lib.hid hown6
  have hkp6:Kept F w w6:=(HKP.out.trans (F':=fun _=>False) (Kept.below HB5.out) (fun _ _ h=>h.elim)).grown hg6 (fun g hg=>by cases hg;exact .inl HH.out.fp)
  have HKP6:=Lib.hid hkp6
  have HBB:=Lib.hid hbb
  have HS6:=Lib.hid hs6
  have HW4S:=Lib.hid hw4s
  clear hown6 hg6 hbb hs6 hkp6 hwp hw4s
  refine hK.out _ _ hS6 (fun _=>?_)
  clear hK K
  refine wpAnyH_done (by kernel_rfl) ?_ _
  go_wp2
  go_end0
  have h:=HH.out
  have hF:∀ i,Own F w w6 i→F i∨w.heap.size≤i:=fun i hi=>hi.imp id (·.1)
  have hpm4:w4.ownsMap Tryz.prog 73 unitElem bp k DP:=HPM.out
  have hlen:(V.mer++[m]).length=k+1:=by rw [HK.out];simp
  have hold:∀ i,i < w.heap.size→i≠b→(Value.slice At k ct).ownBlock≠some i→i≠bp→w6.heap[i]?=w.heap[i]?:=fun i h0 h1 h2 h3=>((HBB.out i (by have:=HW4S.out;omega) h3).trans (HCELL.out i (by omega) h1 h2)).trans (HB1.out.block i h0)
  have hrow:tv.ownBlock=tv.ownBlock:=rfl
  refine ⟨rfl,⟨tv,(.slice (some ⟨g,0,none⟩) (k+1) cap),bt,bp,svs,DT,DP.put (pk m.a m.b) (.agg []),?_⟩,HKP6.out⟩
  exact {
   blk:=HBLK.out.same (HBB.out b HBLK.out.lt HNBP.out)
   trow:=ownsRow_block h.trow fun g' hg=>by
    have hgl:=h.lt g' (h.fv g' hg)
    exact hold g' hgl (fun e=>own_blk_ne h.trow h.blk (by decide) (by rw [hg,e])) (fun e=>own_row_ne HR.out h.trow (by decide) g' e hg) (fun e=>own_map_ne h.trow h.pmap (by rw [hg,e]))
   toks:=fun i sv y h1 h2=>(h.toks i sv y h1 h2).mono HKP6.out (fun _ hf=>hf) hF
   mrow:=by
    show w6.ownsRow 0 88 3 _ (V.mer++[m]).length ((V.mer++[m]).flatMap mgCells)
    rw [hlen,List.flatMap_append,List.flatMap_singleton]
    exact ownsRow_block HROW3.out fun g' hg=>HBB.out g' (HROW3.out.lt g' hg).2 fun e=>own_map_ne HROW3.out hpm4 (by rw [hg,e])
   fits:=fun m' hm'=>by
    rcases List.mem_append.1 hm' with h1 | h1
    ·exact h.fits m' h1
    ·rw [List.mem_singleton.1 h1];exact hm
   tmap:=ownsMap_block h.tmap (hold bt (h.lt bt h.ft) (h.blk.ne_map h.tmap).symm (own_map_ne HR.out h.tmap) h.nob)
   pmap:=by
    show pairAt w6 bp (V.mer++[m]).length _
    rw [hlen]
    exact HO6.out
   isT:=h.isT
   isP:=h.isP.put hm.1 hm.2.1 _
   nob:=h.nob
   fb:=.inl h.fb
   ft:=.inl h.ft
   fp:=.inl h.fp
   fv:=fun g' hg=>.inl (h.fv g' hg)
   fm:=fun g' hg=>by
    have hl:=HLOC.out
    have hlt:=(HROW3.out.lt g' hg).2
    have e:g=g':=by simpa [Value.ownBlock] using hg
    subst e
    rcases hl with hl | hl
    ·exact .inl (HFV.out g hl)
    ·have h1:=HS6.out
     have h2:W1.heap.size=w.heap.size+1:=by rw [HW.out];simp
     have h3:(W1.alloc (.cells #[.int .i64 m.a,.int .i64 m.b,.int .i64 m.t] 88)).drew.heap.size=W1.heap.size+1:=by show (W1.heap.push _).size=_;simp
     have h4:g=W1.heap.size+1:=hl.trans h3
     exact .inr ⟨by omega,by omega⟩
   lt:=fun i hi=>by
    rcases hi with hi | hi
    ·have:=h.lt i hi
     have h1:=HS6.out
     have h2:=HW4S.out
     omega
    ·exact hi.2 }
end Go.Proofs.YthcjikpabpgpfaaGreat
