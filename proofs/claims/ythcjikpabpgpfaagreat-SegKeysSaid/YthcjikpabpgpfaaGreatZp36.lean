import Derived.Test.YthcjikpabpgpfaaGreatZp0
import Derived.Test.YthcjikpabpgpfaaGreatZp31
import Derived.Deep.QuietTactic
import Derived.BigQuiet
import Derived.Laws.ResultCell
import Derived.Test.YthcjikpabpgpfaaGreatZp30
set_option linter.unusedSimpArgs false
set_option maxHeartbeats 16000000
set_option maxRecDepth 100000
namespace Go.Proofs.YthcjikpabpgpfaaGreat
open Go.RowKit Go.Maps Go.WideMaps
def RVOut (w:World) (r:Voc×Int) (e:Ending) (w':World):Prop:=
 ∃ tv mv svs F b,e=.returned (.tuple #[.agg #[tv,mv],.int .i64 r.2])∧Below w.heap.size w w'∧(r.2=0→IsRV w' F b r.1 tv mv svs∧∀ i,F i→w.heap.size≤i)∧(r.2≠0→tv=.slice none 0 0∧mv=.slice none 0 0)
theorem r5Build_any (w:World) (A:Option Addr) (n c:Nat) (l:List (Int×Int)) (hl:PairsIn w A n l) (hn:n≤1048576):
  Calls Tryz.prog 28 #[.slice A n c] w (RVOut w (buildAll l)):=by
 obtain ⟨i0,hi,hz0,hz1,hz2⟩:=info_parts rowInfo
 obtain ⟨j0,hj0,hy0,hy1,hy2⟩:=info_parts mergeInfo
 obtain ⟨R,hR⟩:∃ R,R=buildAll l:=⟨_,rfl⟩
 rw [← hR]
 have HR:=Lib.hid hR
 have HL:=Lib.hid hl
 clear hl hR
 have hb1:=(Below.refl w.heap.size w).alloc (Nat.le_refl _) (.cells #[.slice none 0 0,.slice none 0 0] 30)
 obtain ⟨W1,hW1⟩:∃ W1,W1=w.alloc (.cells #[.slice none 0 0,.slice none 0 0] 30):=⟨_,rfl⟩
 have hv0:Blk W1 w.heap.size 30 #[.slice none 0 0,.slice none 0 0]:=by rw [hW1];exact Blk.new _ _ _
 have hs1:W1.heap.size=w.heap.size+1:=by rw [hW1];simp
 rw [← hW1] at hb1
 have hb2:=(Below.refl W1.heap.size W1).alloc (Nat.le_refl _) (.cells #[.slice none 0 0,.slice none 0 0] 30)
 obtain ⟨W2,hW2⟩:∃ W2,W2=W1.alloc (.cells #[.slice none 0 0,.slice none 0 0] 30):=⟨_,rfl⟩
 have hv4:Blk W2 W1.heap.size 30 #[.slice none 0 0,.slice none 0 0]:=by rw [hW2];exact Blk.new _ _ _
 have hs2:W2.heap.size=W1.heap.size+1:=by rw [hW2];simp
 rw [← hW2] at hb2
 rw [hs1] at hv4
 have hrv:IsRV W2 (fun i=>i=w.heap.size+1) (w.heap.size+1) ⟨[],[]⟩ (.slice none 0 0) (.slice none 0 0) []:={
  blk:=hv4
  trow:=World.ownsRow_nil _ _ _ _
  toks:=fun i sv x h1 _=>by simp at h1
  mrow:=World.ownsRow_nil _ _ _ _
  fits:=fun m h=>by simp at h
  fb:=rfl
  fv:=fun g h=>by simp [Value.ownBlock] at h
  fm:=fun g h=>by simp [Value.ownBlock] at h
  lt:=fun i hi=>by rw [hi];exact hv4.lt }
 have HB2:=Lib.hid (hb1.trans (hb2.mono hb1.size))
 have HV0:=Lib.hid (hv0.below hb2 hv0.lt)
 have hs12:w.heap.size+1≤W2.heap.size:=by rw [hs2,hs1];omega
 have HS12:=Lib.hid hs12
 have HRV:=Lib.hid hrv
 rw [hW1] at hW2
 have HW2:=Lib.hid hW2
 clear hb1 hW1 hv0 hs1 hb2 hW2 hv4 hs2 hrv hs12 W1
 go_enter Tryz.func28,Tryz.ntmps28
 go_wp2_with fail
 rw [← HW2.out]
 go_loopw [5] (fun i wr=>∃ (j:Nat) (F:Nat→Prop) (tv:Value) (svs:List Value),j≤256∧i=.int .i64 j∧IsRV wr F (w.heap.size+1) ⟨ones.take j,[]⟩ tv (.slice none 0 0) svs∧(∀ i,F i→w.heap.size+1≤i)∧Below (w.heap.size+1) W2 wr) (fun i _=>256 - (intOf i).toNat)
 case atStart=>exact ⟨0,_,_,_,by omega,rfl,HRV.out,fun i hi=>by omega,Below.refl _ _⟩
 case round=>
  obtain ⟨j,F,tv,svs,hj,rfl,hG,hF,hB⟩:=hrel
  have HG:=Lib.hid hG
  have HF:=Lib.hid hF
  have HB:=Lib.hid hB
  have e0:=hG.blk.cell 0
  simp only [lz0,lz1] at e0
  rcases Nat.lt_or_ge j 256 with hlt | hge
  ·have hlt':(j:Int) < 256:=by omega
   have htk:=ones_take hlt
   obtain ⟨x,rfl⟩:∃ x:UInt8,j=x.toNat:=⟨UInt8.ofNat j,by rw [UInt8.toNat_ofNat_of_lt' (by show _ < 256;omega)]⟩
   have hxx:UInt8.ofNat x.toNat=x:=by simp
   rw [hxx] at htk
   have hlen:(ones.take x.toNat).length=x.toNat:=by rw [List.length_take,ones_len];omega
   obtain ⟨At,ct,rfl⟩:=own_slice hG.trow
   have b1:=(Below.refl wr.heap.size wr).alloc (Nat.le_refl _) (.cells #[.int .u8 x.toNat] 5)
   have hin:=const_in wr [x] (0,0) (by unfold maxLen;simp)
   obtain ⟨u1,hu1⟩:∃ z,z=wr.alloc (.cells #[.int .u8 x.toNat] 5):=⟨_,rfl⟩
   have hin1:BytesIn u1 (some ⟨wr.heap.size,0,none⟩) 1 [x]:=by rw [hu1];exact hin
   have hs1:u1.heap.size=wr.heap.size+1:=by rw [hu1];simp
   rw [← hu1] at b1
   have b2:=(Below.refl u1.heap.size u1).alloc (Nat.le_refl _) (.cells #[.slice (some ⟨wr.heap.size,0,none⟩) 1 1] 24)
   obtain ⟨u2,hu2⟩:∃ z,z=u1.alloc (.cells #[.slice (some ⟨wr.heap.size,0,none⟩) 1 1] 24):=⟨_,rfl⟩
   have hn2:Blk u2 (wr.heap.size+1) 24 #[.slice (some ⟨wr.heap.size,0,none⟩) 1 1]:=by rw [hu2,← hs1];exact Blk.new _ _ _
   have hs2:u2.heap.size=wr.heap.size+2:=by rw [hu2];simp;omega
   rw [← hu2] at b2
   have b12:=below_then b1 b2 b1.size
   have hG2:=hG.kept b12
   have hti:TokIn u2 F (.slice (some ⟨wr.heap.size,0,none⟩) 1 1) [x]:=⟨_,1,rfl,Nat.le_refl _,hin1.below b2,fun ad e _ hf=>by
    cases e
    have:=hG.lt _ hf
    exact absurd this (by simp)⟩
   rw [hu1] at hu2
   have HG2:=Lib.hid hG2
   have HTI:=Lib.hid hti
   have HTK:=Lib.hid htk
   have HU2:=Lib.hid hu2
   have HN2:=Lib.hid hn2
   have HB2':=Lib.hid (hB.trans (b12.mono (Nat.le_trans HS12.out hB.size)))
   have hrow2:=hG2.trow
   have hnb:=own_blk_ne hG2.trow hG2.blk (by decide)
   have HLEN:=Lib.hid hlen
   rw [show (Voc.tok ⟨ones.take x.toNat,[]⟩)=ones.take x.toNat from rfl,hlen] at hrow2 hnb e0
   have HR2:=Lib.hid hrow2
   have HNB:=Lib.hid hnb
   have hblk2:=hG2.blk
   rw [show (Voc.tok ⟨ones.take x.toNat,[]⟩)=ones.take x.toNat from rfl,hlen] at hblk2
   have HBK:=Lib.hid hblk2
   have HSZ2:=Lib.hid hs2
   have HSW:=Lib.hid (Nat.le_trans HS12.out hB.size)
   clear hG hF hB htk hxx hin b1 hin1 hs1 b2 hn2 b12 hG2 hti hu2 hu1 hrow2 hnb hblk2 hlen hs2
   clear u1
   go_wp2_with (at_builtin;rw [← HU2.out];refine wpList_append_own_at _ rfl _ _ 27 rfl 0 24 i0 (.slice none 0 0) 1 24 Tryz.underlying27 hi hz0 hz1 hz2 rfl (by decide) _ x.toNat svs rfl HR2.out ⟨wr.heap.size+1,0,none⟩ 1 1 [.slice (some ⟨wr.heap.size,0,none⟩) 1 1] rfl rfl (fun j u hu=>by rw [addr_add,HN2.out.cell];simpa using hu) (by simp [Value.oneCell']) (by unfold maxLen;omega) (by omega) (Nat.zero_le _) ?_;intro v' w3 hown' hg3 hnil hloc;obtain ⟨A3,c3,hv⟩:=own_slice hown';rw [hv];clear hnil;have HV:=Lib.hid hv;clear hv;have HB3:=Lib.hid (HBK.out.grown hg3 (fun e=>HNB.out e.symm));have z0:=HB3.out.frozen 0;have y0:=HB3.out.cell 0;simp at y0;have HOWN:=Lib.hid hown';have HG3:=Lib.hid hg3;have HLOC:=Lib.hid hloc;clear hown' hg3 hloc)
   have hown:=HOWN.out
   have hg3:=HG3.out
   have hloc:=HLOC.out
   rw [HV.out] at hown hloc
   obtain ⟨h5,k5⟩:=HG2.out.addTok (tv':=.slice A3 (x.toNat+1) c3) (sv:=.slice (some ⟨wr.heap.size,0,none⟩) 1 1) (x:=[x]) (w2:=w3) HTI.out (by
    show World.ownsRow _ 0 24 1 _ ((ones.take x.toNat).length+1) _
    rw [HLEN.out];exact hown) (by rw [show (Voc.tok ⟨ones.take x.toNat,[]⟩)=ones.take x.toNat from rfl,HLEN.out];exact hg3) (by rw [show (Voc.tok ⟨ones.take x.toNat,[]⟩)=ones.take x.toNat from rfl,HLEN.out];exact hloc)
   have H5:=Lib.hid h5
   have HB5:=Lib.hid (HB2'.out.trans (k5.toBelow (by have:=HSW.out;have:=HSZ2.out;omega) HF.out))
   clear hown hg3 hloc h5 k5 e0 y0 z0
   go_roundw
   case rel=>
    refine ⟨x.toNat+1,_,_,_,by omega,by go_num,by rw [HTK.out];exact H5.out,fun i hi=>?_,HB5.out⟩
    rcases hi with hi | hi
    ·exact HF.out i hi
    ·have h1:=HSZ2.out
     have h2:=HSW.out
     have h3:=hi.1
     omega
   case measure=>simp [intOf];omega
  ·obtain rfl:j=256:=by omega
   have hjz:¬ (((256:Nat):Int) < 256):=by omega
   have h256:ones.take 256=ones:=List.take_of_length_le (by rw [ones_len];omega)
   have HG':=Lib.hid (h256 ▸ hG)
   clear HG h256 hG hF hB e0
   go_wp2_with fail
   go_loopw [6] (fun i wr=>∃ (k:Nat) (F:Nat→Prop) (V:Voc) (tv mv:Value) (svs:List Value),k≤n∧i=.int .i64 k∧VOk V∧buildV V (l.drop k)=R∧IsRV wr F (w.heap.size+1) V tv mv svs∧(∀ i,F i→w.heap.size+1≤i)∧Below (w.heap.size+1) W2 wr) (fun i _=>n - (intOf i).toNat)
   case atStart=>exact ⟨0,F,⟨ones,[]⟩,_,_,_,Nat.zero_le _,rfl,ones_ok,by rw [HR.out];rfl,HG'.out,HF.out,HB.out⟩
   case round=>
    clear HG' HF HB F tv svs
    obtain ⟨k,F,V,tv,mv,svs,hk,rfl,hV,hrest,hG,hF,hB⟩:=hrel
    obtain ⟨At,Bm,ct,cm,rfl,rfl,hsee⟩:=hG.see (by have:=hV.tl;omega) (by have:=hV.ml;omega)
    obtain ⟨tn,htn⟩:∃ tn,tn=V.tok.length:=⟨_,rfl⟩
    obtain ⟨mn,hmn⟩:∃ mn,mn=V.mer.length:=⟨_,rfl⟩
    have HTN:=Lib.hid htn
    have HMN:=Lib.hid hmn
    have ht512:tn≤512:=by rw [htn];exact hV.tl
    have hm512:mn≤512:=by rw [hmn];exact hV.ml
    rw [← htn,← hmn] at hsee hG
    have HV:=Lib.hid hV
    have HRE:=Lib.hid hrest
    have HG:=Lib.hid hG
    have HF:=Lib.hid hF
    have HB:=Lib.hid hB
    have HSEE:=Lib.hid hsee
    have HBW:=Lib.hid (HB2.out.trans (hB.mono (Nat.le_succ _)))
    have HVw:=Lib.hid (HV0.out.below hB (Nat.lt_succ_self _))
    have e0:=hG.blk.cell 0
    have e1:=hG.blk.cell 1
    simp only [lz0,lz1,lz2] at e0 e1
    have y0:=HVw.out.cell 0
    have y1:=HVw.out.cell 1
    have z0:=HVw.out.frozen 0
    have z1:=HVw.out.frozen 1
    simp only [lz0,lz1,lz2] at y0 y1
    clear hV hrest hG hF hB htn hmn hsee
    rcases Nat.lt_or_ge k n with hlt | hge
    ·have hlt':(k:Int) < (n:Int):=by omega
     obtain ⟨ad,p,rfl,hp,c0,c1,f0,f1⟩:=(HL.out.below HBW.out).at k hlt
     obtain ⟨x,y⟩:=p
     simp only at c0 c1 f0 f1
     have hdr:l.drop k=(x,y) :: l.drop (k+1):=by
      have hkl:=(List.getElem?_eq_some_iff.1 hp).1
      rw [List.drop_eq_getElem_cons hkl]
      rw [List.getElem?_eq_getElem hkl] at hp
      rw [Option.some.inj hp]
     have hre:=HRE.out
     rw [hdr] at hre
     simp only [buildV] at hre
     have herr:∀ e:Int,e≠0→pairErr V x y=e→R=(⟨[],[]⟩,e):=fun e h0 he=>by
      rw [← hre,if_pos (by rw [he];exact h0),he]
     have hgood:pairErr V x y=0→buildV (pairAdd V x y) (l.drop (k+1))=R:=fun he=>by
      rw [← hre,if_neg (by rw [he];simp)]
     have h53:freeB V x y=false→pairErr V x y=53:=fun h=>by unfold pairErr;rw [if_pos h]
     have HERR:=Lib.hid herr
     have HGOOD:=Lib.hid hgood
     have H53:=Lib.hid h53
     have hk0:(0:Int)≤(k:Int):=by omega
     obtain ⟨ff,hff⟩:∃ ff,ff=freeB V x y:=⟨_,rfl⟩
     have HFF:=Lib.hid hff
     have hfd:ff=(decide (0≤x∧x < (tn:Int))&&(decide (0≤y∧y < (tn:Int))&&!(mergedB V.mer x y))):=by rw [hff,HTN.out];rfl
     have HFD:=Lib.hid hfd
     clear hdr hre hp herr hgood h53 hff hfd
     by_cases g1:x < 0
     ·have dg1:decide (x < 0)=true:=by simpa using g1
      have hf:freeB V x y=false:=by rw [← HFF.out,HFD.out,Bool.eq_false_iff];intro h;simp at h;omega
      have HFA:=Lib.hid hf
      clear hf g1
      go_wp2
      refine bodyPost_ret (results_cell_row_tmp rfl _ _ w.heap.size 30 #[.slice none 0 0,.slice none 0 0] (0,0) _ rfl ?_ Tryz.underlying30 rfl vocabCells) rfl ?_
      ·have:=((HVw.out).set_ 0 (.slice none 0 0)).set_ 1 (.slice none 0 0)
       simpa [Blk] using this
      ·unfold RVOut
       rw [HERR.out 53 (by omega) (H53.out HFA.out)]
       exact ⟨.slice none 0 0,.slice none 0 0,[],fun _=>False,0,rfl,((HBW.out).setCell (Nat.le_refl _) _).setCell (Nat.le_refl _) _,fun h=>by simp at h,fun _=>⟨rfl,rfl⟩⟩
     have dg1:decide (x < 0)=false:=by simpa using g1
     by_cases g2:(tn:Int)≤x
     ·have dg2:decide ((tn:Int)≤x)=true:=by simpa using g2
      have hf:freeB V x y=false:=by rw [← HFF.out,HFD.out,Bool.eq_false_iff];intro h;simp at h;omega
      have HFA:=Lib.hid hf
      clear hf g2
      go_wp2
      refine bodyPost_ret (results_cell_row_tmp rfl _ _ w.heap.size 30 #[.slice none 0 0,.slice none 0 0] (0,0) _ rfl ?_ Tryz.underlying30 rfl vocabCells) rfl ?_
      ·have:=((HVw.out).set_ 0 (.slice none 0 0)).set_ 1 (.slice none 0 0)
       simpa [Blk] using this
      ·unfold RVOut
       rw [HERR.out 53 (by omega) (H53.out HFA.out)]
       exact ⟨.slice none 0 0,.slice none 0 0,[],fun _=>False,0,rfl,((HBW.out).setCell (Nat.le_refl _) _).setCell (Nat.le_refl _) _,fun h=>by simp at h,fun _=>⟨rfl,rfl⟩⟩
     have dg2:decide ((tn:Int)≤x)=false:=by simpa using g2
     by_cases g3:y < 0
     ·have dg3:decide (y < 0)=true:=by simpa using g3
      have hf:freeB V x y=false:=by rw [← HFF.out,HFD.out,Bool.eq_false_iff];intro h;simp at h;omega
      have HFA:=Lib.hid hf
      clear hf g3
      go_wp2
      refine bodyPost_ret (results_cell_row_tmp rfl _ _ w.heap.size 30 #[.slice none 0 0,.slice none 0 0] (0,0) _ rfl ?_ Tryz.underlying30 rfl vocabCells) rfl ?_
      ·have:=((HVw.out).set_ 0 (.slice none 0 0)).set_ 1 (.slice none 0 0)
       simpa [Blk] using this
      ·unfold RVOut
       rw [HERR.out 53 (by omega) (H53.out HFA.out)]
       exact ⟨.slice none 0 0,.slice none 0 0,[],fun _=>False,0,rfl,((HBW.out).setCell (Nat.le_refl _) _).setCell (Nat.le_refl _) _,fun h=>by simp at h,fun _=>⟨rfl,rfl⟩⟩
     have dg3:decide (y < 0)=false:=by simpa using g3
     by_cases g4:(tn:Int)≤y
     ·have dg4:decide ((tn:Int)≤y)=true:=by simpa using g4
      have hf:freeB V x y=false:=by rw [← HFF.out,HFD.out,Bool.eq_false_iff];intro h;simp at h;omega
      have HFA:=Lib.hid hf
      clear hf g4
      go_wp2
      refine bodyPost_ret (results_cell_row_tmp rfl _ _ w.heap.size 30 #[.slice none 0 0,.slice none 0 0] (0,0) _ rfl ?_ Tryz.underlying30 rfl vocabCells) rfl ?_
      ·have:=((HVw.out).set_ 0 (.slice none 0 0)).set_ 1 (.slice none 0 0)
       simpa [Blk] using this
      ·unfold RVOut
       rw [HERR.out 53 (by omega) (H53.out HFA.out)]
       exact ⟨.slice none 0 0,.slice none 0 0,[],fun _=>False,0,rfl,((HBW.out).setCell (Nat.le_refl _) _).setCell (Nat.le_refl _) _,fun h=>by simp at h,fun _=>⟨rfl,rfl⟩⟩
     have dg4:decide ((tn:Int)≤y)=false:=by simpa using g4
     cases hmg:mergedB V.mer x y with
     | true=>
      have HMG:=Lib.hid hmg
      have hf:freeB V x y=false:=by rw [← HFF.out,HFD.out,hmg];simp
      have HFA:=Lib.hid hf
      clear hf hmg
      go_wp2_with fail
      refine (r5merged_is wr Bm mn cm V.mer HSEE.out.mer x y HMG.out).mono ?_
      rintro e w3 ⟨rfl,hw⟩
      rw [hw]
      clear hw w3
      go_wp2
      refine bodyPost_ret (results_cell_row_tmp rfl _ _ w.heap.size 30 #[.slice none 0 0,.slice none 0 0] (0,0) _ rfl ?_ Tryz.underlying30 rfl vocabCells) rfl ?_
      ·have:=((HVw.out).set_ 0 (.slice none 0 0)).set_ 1 (.slice none 0 0)
       simpa [Blk] using this
      ·unfold RVOut
       rw [HERR.out 53 (by omega) (H53.out HFA.out)]
       exact ⟨.slice none 0 0,.slice none 0 0,[],fun _=>False,0,rfl,((HBW.out).setCell (Nat.le_refl _) _).setCell (Nat.le_refl _) _,fun h=>by simp at h,fun _=>⟨rfl,rfl⟩⟩
     | false=>
      have HMG:=Lib.hid hmg
      have hf:freeB V x y=true:=by
       rw [← HFF.out,HFD.out,hmg,decide_eq_true (by omega),decide_eq_true (by omega)];rfl
      obtain ⟨i,j,s,t,hi,hj,hs,ht,hboth,-⟩:=free_idx hf
      obtain ⟨adt,C1,q1,rfl,a1,_,i1⟩:=HSEE.out.tok.at_ i s hs
      obtain ⟨_,C2,q2,hh,a2,_,i2⟩:=HSEE.out.tok.at_ j t ht
      cases hh
      have hsl:=HV.out.short s (List.mem_of_getElem? hs)
      have htl:=HV.out.short t (List.mem_of_getElem? ht)
      have hit:(i:Int) < (tn:Int):=by omega
      have hjt:(j:Int) < (tn:Int):=by omega
      have hi0:(0:Int)≤(i:Int):=by omega
      have hj0':(0:Int)≤(j:Int):=by omega
      subst hi hj
      have e0q:∀ q,(wr.drewN q).cell? ⟨w.heap.size+1,0,none⟩=some (.slice (some adt) tn ct):=fun _=>e0
      have a1q:∀ q,(wr.drewN q).cell? (adt.add i)=some (.slice C1 s.length q1):=fun _=>a1
      have a2q:∀ q,(wr.drewN q).cell? (adt.add j)=some (.slice C2 t.length q2):=fun _=>a2
      have cv1:=fun q=>str_of (i1.drewN q) q1
      have cv2:=fun q=>str_of (i2.drewN q) q2
      have la:=hsl.2
      have lb:=htl.2
      have laz:(s.length:Int)≤8388608:=by omega
      have lbz:(t.length:Int)≤8388608:=by omega
      have lab:s.length+t.length≤9223372036854775807:=by omega
      have labn:¬ (9223372036854775807 < s.length+t.length):=by omega
      obtain ⟨st,hst⟩:∃ st,st=s++t:=⟨_,rfl⟩
      have hbs:(⟨s.toArray⟩:ByteArray)++⟨t.toArray⟩=⟨st.toArray⟩:=by rw [hst,ByteArray.mk_append_mk]
      have hstl:st.length=s.length+t.length:=by rw [hst,List.length_append]
      have HBO:=Lib.hid (hboth.trans hst.symm)
      have HFA:=Lib.hid hf
      have HL1:=Lib.hid hsl
      have HSTL:=Lib.hid hstl
      clear hmg hf hs ht hboth a1 a2 i1 i2 hsl htl hst hstl
      go_wp2_with fail
      refine (r5merged_is wr Bm mn cm V.mer HSEE.out.mer i j HMG.out).mono ?_
      rintro e w3 ⟨rfl,hw⟩
      rw [hw]
      clear hw w3
      go_wp2_with fail
      go_quiet (fail)
      obtain ⟨X,hX⟩:∃ z,z=wr.drewN nq:=⟨_,rfl⟩
      rw [← hX]
      have hbX:Below wr.heap.size wr X:=by rw [hX];exact below_drewN (Below.refl _ _) _
      have HGX:=Lib.hid (HG.out.kept hbX)
      have HSX:=Lib.hid (HSEE.out.below hbX)
      have HBX:=Lib.hid (below_then HBW.out hbX HBW.out.size)
      have HBX1:=Lib.hid (HB.out.trans (hbX.mono (Nat.le_trans HS12.out HB.out.size)))
      have HVX:=Lib.hid (HVw.out.below hbX HVw.out.lt)
      have hszX:w.heap.size+1≤X.heap.size:=Nat.le_trans (Nat.le_trans HS12.out HB.out.size) hbX.size
      have HSZX:=Lib.hid hszX
      have b0:=HGX.out.blk.cell 0
      have b1:=HGX.out.blk.cell 1
      simp only [lz0,lz1,lz2] at b0 b1
      have y0':=HVX.out.cell 0
      have y1':=HVX.out.cell 1
      have z0':=HVX.out.frozen 0
      have z1':=HVX.out.frozen 1
      simp only [lz0,lz1,lz2] at y0' y1'
      clear hX hbX e0q a1q a2q cv1 cv2 e0 e1 y0 y1 z0 z1 c0 c1 hszX hbs
      have hpe:pairErr V i j=if 16 < st.length then 52 else if 512≤mn∨(findT V.tok st < 0∧512≤tn) then 2 else 0:=by
       unfold pairErr
       rw [if_neg (by rw [HFA.out];simp),HBO.out,HMN.out,HTN.out]
      have HPE:=Lib.hid hpe
      clear hpe
      by_cases h16:16 < st.length
      ·have z16:(16:Int) < (st.length:Int):=by omega
       have H16:=Lib.hid h16
       clear h16
       go_wp2
       refine bodyPost_ret (results_cell_row_tmp rfl _ _ w.heap.size 30 #[.slice none 0 0,.slice none 0 0] (0,0) _ rfl ?_ Tryz.underlying30 rfl vocabCells) rfl ?_
       ·have:=((HVX.out).set_ 0 (.slice none 0 0)).set_ 1 (.slice none 0 0)
        simpa [Blk] using this
       ·unfold RVOut
        rw [HERR.out 52 (by omega) (by rw [HPE.out,if_pos H16.out])]
        exact ⟨.slice none 0 0,.slice none 0 0,[],fun _=>False,0,rfl,((HBX.out).setCell (Nat.le_refl _) _).setCell (Nat.le_refl _) _,fun h=>by simp at h,fun _=>⟨rfl,rfl⟩⟩
      have z16:¬ (16:Int) < (st.length:Int):=by omega
      obtain ⟨fd,hfd⟩:∃ fd,fd=findT V.tok st:=⟨_,rfl⟩
      have hfb:=find_fits (L:=V.tok) (by rw [← HTN.out];omega) st
      rw [← hfd] at HPE hfb
      rw [if_neg h16] at HPE
      have HFDT:=Lib.hid hfd
      have H16:=Lib.hid h16
      have hslen:st.length≤16:=by omega
      clear hfd h16
      go_wp2_with fail
      refine (r5find_is X (some adt) tn ct V.tok st HSX.out.tok HFDT.out.symm).mono ?_
      rintro e w3 ⟨rfl,hw⟩
      rw [hw]
      clear hw w3
      by_cases hmf:512≤mn
      ·have dm:decide ((512:Int)≤(mn:Int))=true:=by simp;omega
       have HMF:=Lib.hid hmf
       clear hmf
       go_wp2
       refine bodyPost_ret (results_cell_row_tmp rfl _ _ w.heap.size 30 #[.slice none 0 0,.slice none 0 0] (0,0) _ rfl ?_ Tryz.underlying30 rfl vocabCells) rfl ?_
       ·have:=((HVX.out).set_ 0 (.slice none 0 0)).set_ 1 (.slice none 0 0)
        simpa [Blk] using this
       ·unfold RVOut
        rw [HERR.out 2 (by omega) (by rw [HPE.out,if_pos (.inl HMF.out)])]
        exact ⟨.slice none 0 0,.slice none 0 0,[],fun _=>False,0,rfl,((HBX.out).setCell (Nat.le_refl _) _).setCell (Nat.le_refl _) _,fun h=>by simp at h,fun _=>⟨rfl,rfl⟩⟩
      have dm:decide ((512:Int)≤(mn:Int))=false:=by simp;omega
      by_cases hneg:fd < 0
      ·have dn:decide (fd < 0)=true:=by simpa using hneg
       by_cases htf:512≤tn
       ·have dt:decide ((512:Int)≤(tn:Int))=true:=by simp;omega
        have HTF:=Lib.hid htf
        have HNEG:=Lib.hid hneg
        clear htf hneg
        go_wp2
        refine bodyPost_ret (results_cell_row_tmp rfl _ _ w.heap.size 30 #[.slice none 0 0,.slice none 0 0] (0,0) _ rfl ?_ Tryz.underlying30 rfl vocabCells) rfl ?_
        ·have:=((HVX.out).set_ 0 (.slice none 0 0)).set_ 1 (.slice none 0 0)
         simpa [Blk] using this
        ·unfold RVOut
         rw [HERR.out 2 (by omega) (by rw [HPE.out,if_pos (.inr ⟨HNEG.out,HTF.out⟩)])]
         exact ⟨.slice none 0 0,.slice none 0 0,[],fun _=>False,0,rfl,((HBX.out).setCell (Nat.le_refl _) _).setCell (Nat.le_refl _) _,fun h=>by simp at h,fun _=>⟨rfl,rfl⟩⟩
       have dt:decide ((512:Int)≤(tn:Int))=false:=by simp;omega
       have hok:pairErr V i j=0:=by rw [HPE.out,if_neg (by omega)]
       have hadd:pairAdd V i j=⟨V.tok++[st],V.mer++[⟨i,j,(tn:Int)⟩]⟩:=by
        unfold pairAdd
        rw [HBO.out,← HFDT.out,if_pos hneg,HTN.out]
       have HOKP:=Lib.hid hok
       have HADD:=Lib.hid hadd
       obtain ⟨cb,w5,hrun,hb5,hin5,hc5,hs5⟩:=bytes_of X st (by omega)
       have hG5:=HGX.out.kept hb5
       have b2:=(Below.refl w5.heap.size w5).alloc (Nat.le_refl _) (.cells #[.slice (some ⟨X.heap.size,0,none⟩) st.length cb] 24)
       obtain ⟨u2,hu2⟩:∃ z,z=w5.alloc (.cells #[.slice (some ⟨X.heap.size,0,none⟩) st.length cb] 24):=⟨_,rfl⟩
       have hn2:Blk u2 w5.heap.size 24 #[.slice (some ⟨X.heap.size,0,none⟩) st.length cb]:=by rw [hu2];exact Blk.new _ _ _
       rw [← hu2] at b2
       have hG2:=hG5.kept b2
       have hb52:=below_then hb5 b2 hb5.size
       have hti:TokIn u2 F (.slice (some ⟨X.heap.size,0,none⟩) st.length cb) st:=⟨_,cb,rfl,hc5,hin5.below b2,fun ad e _ hf=>by
        cases e
        have:=HGX.out.lt _ hf
        exact absurd this (by simp)⟩
       have hrow2:=hG2.trow
       rw [← HTN.out] at hrow2
       have HG2:=Lib.hid hG2
       have HTI:=Lib.hid hti
       have HU2:=Lib.hid hu2
       have HN2:=Lib.hid hn2
       have HR2:=Lib.hid hrow2
       have HNB:=Lib.hid (own_blk_ne hrow2 hG2.blk (by decide))
       have HBK:=Lib.hid hG2.blk
       have HB2':=Lib.hid (HBX1.out.trans (hb52.mono HSZX.out))
       have hsu:X.heap.size≤u2.heap.size:=hb52.size
       have HSU:=Lib.hid hsu
       have e0w:=hG5.blk.cell 0
       simp only [lz0,lz1] at e0w
       clear hok hadd hb5 hin5 hc5 hs5 hG5 b2 hu2 hn2 hG2 hb52 hti hrow2 hsu
       clear y0' y1' z0' z1'
       have tok1:True:=trivial
       have tok2:True:=trivial
       have htnf:fits64 (tn:Int):=⟨by omega,by omega⟩
       have HTNF:=Lib.hid htnf
       clear htnf
       go_wp2_with (first
        | (
         have _t:=tok1
         at_builtin
         rw [← HU2.out]
         refine wpList_append_own_at _ rfl _ _ 27 rfl 0 24 i0 (.slice none 0 0) 1 24 Tryz.underlying27 hi hz0 hz1 hz2 rfl (by decide) _ tn svs rfl HR2.out ⟨w5.heap.size,0,none⟩ 1 1 [.slice (some ⟨X.heap.size,0,none⟩) st.length cb] rfl rfl (fun j u hu=>by rw [addr_add,HN2.out.cell];simpa using hu) (by simp [Value.oneCell']) (by unfold maxLen;omega) (by omega) (Nat.zero_le _) ?_
         intro v' w6 hown' hg3 hnil hloc
         clear tok1 hnil
         obtain ⟨A3,c3,hv⟩:=own_slice hown'
         rw [hv] at hown' hloc ⊢
         clear hv
         have HB3:=Lib.hid (HBK.out.grown hg3 (fun e=>HNB.out e.symm))
         have z0:=HB3.out.frozen 0
         have y0:=HB3.out.cell 0
         simp at y0
         obtain ⟨h5,k5⟩:=HG2.out.addTok (tv':=.slice A3 (tn+1) c3) (w2:=w6) HTI.out (by rw [← HTN.out];exact hown') hg3 hloc
         have HB5:=Lib.hid (HB2'.out.trans (k5.toBelow (Nat.le_trans HSZX.out HSU.out) HF.out))
         have y9:=h5.blk.cell 1
         simp only [lz0,lz1,lz2] at y9
         have hs6:u2.heap.size≤w6.heap.size:=hg3.size
         have h5s:=size_setCell' w6 ⟨w.heap.size+1,0,none⟩ (.slice A3 (tn+1) c3)
         have hbA:=(Below.refl (w6.setCell ⟨w.heap.size+1,0,none⟩ (.slice A3 (tn+1) c3)).heap.size (w6.setCell ⟨w.heap.size+1,0,none⟩ (.slice A3 (tn+1) c3))).alloc (Nat.le_refl _) (.cells #[.int .i64 i,.int .i64 j,.int .i64 tn] 88)
         obtain ⟨u4,hu4⟩:∃ z,z=(w6.setCell ⟨w.heap.size+1,0,none⟩ (.slice A3 (tn+1) c3)).alloc (.cells #[.int .i64 i,.int .i64 j,.int .i64 tn] 88):=⟨_,rfl⟩
         have hn4:Blk u4 w6.heap.size 88 #[.int .i64 i,.int .i64 j,.int .i64 tn]:=by rw [hu4,← h5s];exact Blk.new _ _ _
         rw [← hu4] at hbA
         have h6:=h5.kept hbA
         have hr6:=h6.mrow
         have hb6:=h6.blk
         have hnb6:=own_blk_ne hr6 hb6 (by decide)
         simp only [← HMN.out] at hr6
         have HB6:=Lib.hid (HB5.out.trans (hbA.mono (by rw [h5s];have:=HSU.out;have:=HSZX.out;omega)))
         have HS6:=Lib.hid (show w.heap.size+1≤u4.heap.size from by have h1:=hbA.size;rw [h5s] at h1;have:=HSU.out;have:=HSZX.out;omega)
         have HF6:=Lib.hid (show ∀ q,Own F u2 (w6.setCell ⟨w.heap.size+1,0,none⟩ (.slice A3 (tn+1) c3)) q→w.heap.size+1≤q from fun q hq=>by
          rcases hq with hq | hq
          ·exact HF.out q hq
          ·have h1:=hq.1
           have:=HSU.out
           have:=HSZX.out
           omega)
         have H6:=Lib.hid h6
         have HR6:=Lib.hid hr6
         have HBK6:=Lib.hid hb6
         have HNB6:=Lib.hid hnb6
         have HU4:=Lib.hid hu4
         have HN4:=Lib.hid hn4
         clear hown' hg3 hloc h5 k5 hs6 h5s hbA hn4 hu4 h6 hr6 hb6 hnb6)
        | (
         have _t:=tok2
         at_builtin
         rw [← HU4.out]
         refine wpList_append_own_at _ rfl _ _ 28 rfl 0 88 j0 _ 3 24 Tryz.underlying28 hj0 hy0 hy1 hy2 rfl (by decide) _ mn (V.mer.flatMap mgCells) rfl HR6.out ⟨w6.heap.size,0,none⟩ 1 1 (mgCells ⟨i,j,(tn:Int)⟩) rfl rfl (fun j u hu=>by rw [addr_add,HN4.out.cell];simpa [mgCells] using hu) (by simp [mgCells,Value.oneCell']) (by unfold maxLen;omega) (by omega) (Nat.zero_le _) ?_
         intro v' w8 hown' hg3 hnil hloc
         clear tok2 hnil
         obtain ⟨A8,c8,hv⟩:=own_slice hown'
         rw [hv] at hown' hloc ⊢
         clear hv
         have HB8:=Lib.hid (HBK6.out.grown hg3 (fun e=>HNB6.out e.symm))
         have z8:=HB8.out.frozen 1
         have y8:=HB8.out.cell 1
         simp at y8
         have HOWN8:=Lib.hid hown'
         have HG8:=Lib.hid hg3
         have HLOC8:=Lib.hid hloc
         clear hown' hg3 hloc))
       have hown:=HOWN8.out
       obtain ⟨h9,k9⟩:=H6.out.addMer (mv':=.slice A8 (mn+1) c8) (m:=⟨i,j,(tn:Int)⟩) (w2:=w8) ⟨f0,f1,HTNF.out⟩ (by simp only [← HMN.out];exact hown) HG8.out HLOC8.out
       have H9:=Lib.hid h9
       have HB9:=Lib.hid (HB6.out.trans (k9.toBelow HS6.out HF6.out))
       clear hown h9 k9 z8 y8
       go_roundw
       case rel=>
        refine ⟨k+1,_,_,_,_,_,by omega,by go_num,HV.out.add HOKP.out,HGOOD.out HOKP.out,by rw [HADD.out];exact H9.out,fun q hq=>?_,HB9.out⟩
        rcases hq with hq | hq
        ·exact HF6.out q hq
        ·have h1:=HS6.out
         have h2:=hq.1
         omega
       case measure=>simp [intOf];omega
      ·have dn:decide (fd < 0)=false:=by simpa using hneg
       have hok:pairErr V i j=0:=by rw [HPE.out,if_neg (by omega)]
       have hadd:pairAdd V i j=⟨V.tok,V.mer++[⟨i,j,fd⟩]⟩:=by
        unfold pairAdd
        rw [HBO.out,← HFDT.out,if_neg hneg]
       have HOKP:=Lib.hid hok
       have HADD:=Lib.hid hadd
       have HFB:=Lib.hid hfb
       have hbA:=(Below.refl X.heap.size X).alloc (Nat.le_refl _) (.cells #[.int .i64 i,.int .i64 j,.int .i64 fd] 88)
       obtain ⟨u4,hu4⟩:∃ z,z=X.alloc (.cells #[.int .i64 i,.int .i64 j,.int .i64 fd] 88):=⟨_,rfl⟩
       have hn4:Blk u4 X.heap.size 88 #[.int .i64 i,.int .i64 j,.int .i64 fd]:=by rw [hu4];exact Blk.new _ _ _
       rw [← hu4] at hbA
       have h6:=HGX.out.kept hbA
       have hr6:=h6.mrow
       have hb6:=h6.blk
       have hnb6:=own_blk_ne hr6 hb6 (by decide)
       rw [← HMN.out] at hr6
       have HB6:=Lib.hid (HBX1.out.trans (hbA.mono HSZX.out))
       have HS6:=Lib.hid (Nat.le_trans HSZX.out hbA.size)
       have H6:=Lib.hid h6
       have HR6:=Lib.hid hr6
       have HBK6:=Lib.hid hb6
       have HNB6:=Lib.hid hnb6
       have HU4:=Lib.hid hu4
       have HN4:=Lib.hid hn4
       clear hok hadd hbA hu4 hn4 h6 hr6 hb6 hnb6 y0' y1' z0' z1'
       have tok2:True:=trivial
       go_wp2_with (
        have _t:=tok2
        at_builtin
        rw [← HU4.out]
        refine wpList_append_own_at _ rfl _ _ 28 rfl 0 88 j0 _ 3 24 Tryz.underlying28 hj0 hy0 hy1 hy2 rfl (by decide) _ mn (V.mer.flatMap mgCells) rfl HR6.out ⟨X.heap.size,0,none⟩ 1 1 (mgCells ⟨i,j,fd⟩) rfl rfl (fun j u hu=>by rw [addr_add,HN4.out.cell];simpa [mgCells] using hu) (by simp [mgCells,Value.oneCell']) (by unfold maxLen;omega) (by omega) (Nat.zero_le _) ?_
        intro v' w8 hown' hg3 hnil hloc
        clear tok2 hnil
        obtain ⟨A8,c8,hv⟩:=own_slice hown'
        rw [hv] at hown' hloc ⊢
        clear hv
        have HB8:=Lib.hid (HBK6.out.grown hg3 (fun e=>HNB6.out e.symm))
        have z8:=HB8.out.frozen 1
        have y8:=HB8.out.cell 1
        simp at y8
        have HOWN8:=Lib.hid hown'
        have HG8:=Lib.hid hg3
        have HLOC8:=Lib.hid hloc
        clear hown' hg3 hloc)
       have hown:=HOWN8.out
       obtain ⟨h9,k9⟩:=H6.out.addMer (mv':=.slice A8 (mn+1) c8) (m:=⟨i,j,fd⟩) (w2:=w8) ⟨f0,f1,HFB.out⟩ (by simp only [← HMN.out];exact hown) HG8.out HLOC8.out
       have H9:=Lib.hid h9
       have HB9:=Lib.hid (HB6.out.trans (k9.toBelow HS6.out HF.out))
       clear hown h9 k9 z8 y8
       go_roundw
       case rel=>
        refine ⟨k+1,_,_,_,_,_,by omega,by go_num,HV.out.add HOKP.out,HGOOD.out HOKP.out,by rw [HADD.out];exact H9.out,fun q hq=>?_,HB9.out⟩
        rcases hq with hq | hq
        ·exact HF.out q hq
        ·have h1:=HS6.out
         have h2:=hq.1
         omega
       case measure=>simp [intOf];omega
    ·obtain rfl:k=n:=by omega
     have hkz:¬ ((k:Int) < (k:Int)):=by omega
     have hre:=HRE.out
     rw [List.drop_of_length_le (by rw [HL.out.len];exact Nat.le_refl _)] at hre
     have HRE3:=Lib.hid hre
     clear hre
     go_wp2
     have hnF:¬ F w.heap.size:=fun hf=>by have:=HF.out _ hf;omega
     have hk1:Kept (fun i=>i=w.heap.size) wr (wr.setCell ⟨w.heap.size,0,none⟩ (.slice At tn ct)):=(Kept.refl (fun i=>i=w.heap.size) wr).setCell (p:=⟨w.heap.size,0,none⟩) (.inl rfl) _
     have hk2:Kept (fun i=>i=w.heap.size) wr ((wr.setCell ⟨w.heap.size,0,none⟩ (.slice At tn ct)).setCell ⟨w.heap.size,1,none⟩ (.slice Bm mn cm)):=hk1.setCell (p:=⟨w.heap.size,1,none⟩) (.inl rfl) _
     have h4:=HG.out.far hk2 hnF (fun A0 x hx=>not_bytes HVw.out (fun i c=>by
      match i with
      | 0=>simp [byteV]
      | 1=>simp [byteV]
      | i+2=>simp) A0 x hx)
     refine bodyPost_ret (results_cell_row_tmp rfl _ _ w.heap.size 30 #[.slice At tn ct,.slice Bm mn cm] (0,0) _ rfl ?_ Tryz.underlying30 rfl vocabCells) rfl ?_
     ·have:=(HVw.out.set_ 0 (.slice At tn ct)).set_ 1 (.slice Bm mn cm)
      simpa [Blk] using this
     ·unfold RVOut
      rw [← HRE3.out]
      exact ⟨.slice At tn ct,.slice Bm mn cm,svs,F,w.heap.size+1,rfl,(HBW.out.setCell (Nat.le_refl _) _).setCell (Nat.le_refl _) _,fun _=>⟨h4,fun i hi=>by have:=HF.out i hi;omega⟩,fun h=>absurd rfl h⟩
def ofN (l:List (Int×Int)):Nat→Voc
 | 0=>⟨ones,[]⟩
 | k+1=>if (buildAll (l.take (k+1))).2=0 then (buildAll (l.take (k+1))).1 else ofN l k
def ofV (l:List (Int×Int)):Voc:=ofN l (min l.length 599)
theorem build_bad_more {l:List (Int×Int)} {k:Nat} (h:(buildAll (l.take k)).2≠0):∀ m,k≤m→(buildAll (l.take m)).2≠0
 | 0,hm=>by
  have:k=0:=by omega
  subst this
  exact h
 | m+1,hm=>by
  rcases Nat.lt_or_ge m k with h1 | h1
  ·have:k=m+1:=by omega
   subst this
   exact h
  ·have ih:=build_bad_more h m h1
   rw [List.take_add_one]
   cases l[m]? with
   | none=>simpa using ih
   | some p=>
    show (buildAll (l.take m++[p])).2≠0
    unfold buildAll at ih ⊢
    rw [build_more_err p _ _ ih]
    exact ih
theorem ofN_stop {l:List (Int×Int)} {k:Nat} (h:(buildAll (l.take (k+1))).2≠0):∀ m,k≤m→ofN l m=ofN l k
 | 0,hm=>by
  have:k=0:=by omega
  subst this
  rfl
 | m+1,hm=>by
  rcases Nat.lt_or_ge m k with h1 | h1
  ·have:k=m+1:=by omega
   subst this
   rfl
  ·have:=build_bad_more h (m+1) (by omega)
   rw [ofN,if_neg this,ofN_stop h m h1]
theorem ofN_ok (l:List (Int×Int)):∀ k,VOk (ofN l k)
 | 0=>ones_ok
 | k+1=>by
  rw [ofN]
  split
  ·exact build_ok _ _ ones_ok (by assumption)
  ·exact ofN_ok l k
theorem ofV_ok (l:List (Int×Int)):VOk (ofV l):=ofN_ok l _
theorem ofN_good {l:List (Int×Int)} {k:Nat} (h:(buildAll (l.take k)).2=0):ofN l k=(buildAll (l.take k)).1:=by
 cases k with
 | zero=>simp [ofN,buildAll,buildV]
 | succ k=>rw [ofN,if_pos h]
theorem PairsIn.upto {w:World} {A:Option Addr} {n:Nat} {l:List (Int×Int)} (h:PairsIn w A n l) (q:Nat) (hq:q≤n):PairsIn w A q (l.take q) where
 len:=by rw [List.length_take,h.len];omega
 fit:=Nat.le_trans hq h.fit
 vals:=fun p hp=>h.vals p (List.mem_of_mem_take hp)
 nil:=fun e=>by have:=h.nil e;omega
 cells:=fun ad e i p hp=>by
  rw [List.getElem?_take] at hp
  split at hp
  ·exact h.cells ad e i p hp
  ·cases hp
theorem PairsIn.none (w:World):PairsIn w none 0 []:=⟨rfl,Nat.zero_le _,by simp,fun _=>rfl,fun _ e=>by cases e⟩
def OfOut (w:World) (V:Voc) (e:Ending) (w':World):Prop:=
 ∃ A B n m ca cb,e=.returned (vocV A B n m ca cb)∧VocSee w' A B n m ca cb V∧Below w.heap.size w w'
structure OfAt (w0 w:World) (l:List (Int×Int)) (p2 p3 k:Nat) (F:Nat→Prop) (b:Nat) (tv mv:Value) (svs:List Value):Prop where
 rv:IsRV w F b (ofN l (k - 1)) tv mv svs
 far:∀ i,F i→i≠p2∧i≠p3
 cur:Blk w p3 30 #[tv,mv]
 res:Blk w p2 30 #[.slice none 0 0,.slice none 0 0]
 below:Below w0.heap.size w0 w
 good:∀ j,j < k→(buildAll (l.take j)).2=0
 le2:w0.heap.size≤p2
 le3:p2 < p3
theorem slice_notB (A:Option Addr) (n c:Nat):∀ x,(Value.slice A n c)≠byteV x:=by intro x h;cases h
theorem vocab_notB {w:World} {g:Nat} {a b:Value} (h:Blk w g 30 #[a,b]) (h1:∀ c,a≠byteV c) (h2:∀ c,b≠byteV c):∀ (A:Option Addr) (x:Nm),BytesIn w A x.length x→∀ ad,A=some ad→0 < x.length→ad.block≠g:=
 not_bytes h fun i c e=>by
  rcases i with _ | _ | i
  ·simp at e;exact h1 c e
  ·simp at e;exact h2 c e
  ·simp at e
theorem OfAt.then {w0 w w':World} {l:List (Int×Int)} {p2 p3 k:Nat} {F:Nat→Prop} {b:Nat} {tv mv:Value} {svs:List Value} (h:OfAt w0 w l p2 p3 k F b tv mv svs) (hb:Below w.heap.size w w'):OfAt w0 w' l p2 p3 k F b tv mv svs where
 rv:=h.rv.kept hb
 far:=h.far
 cur:=h.cur.below hb h.cur.lt
 res:=h.res.below hb h.res.lt
 below:=below_then h.below hb h.below.size
 good:=h.good
 le2:=h.le2
 le3:=h.le3
theorem OfAt.next {w0 w w5 w6:World} {l:List (Int×Int)} {p2 p3 k:Nat} {F F':Nat→Prop} {b b':Nat} {A B:Option Addr} {n m ca cb:Nat} {tv mv:Value} {svs svs':List Value} (h:OfAt w0 w l p2 p3 k F b tv mv svs) (h5:Below w.heap.size w w5)
  (hI:IsRV w5 F' b' (buildAll (l.take k)).1 (.slice A n ca) (.slice B m cb) svs') (hF:∀ i,F' i→w.heap.size≤i) (he:(buildAll (l.take k)).2=0) (h6:Below w5.heap.size w5 w6):
  OfAt w0 ((w6.setCell ⟨p3,0,none⟩ (.slice A n ca)).setCell ⟨p3,1,none⟩ (.slice B m cb)) l p2 p3 (k+1) F' b' (.slice A n ca) (.slice B m cb) svs':=by
 have h56:=below_then h5 h6 h5.size
 have hc:=h.cur.below h56 h.cur.lt
 have hr:=h.res.below h56 h.res.lt
 have hk:Kept (fun i=>i=p3) w6 ((w6.setCell ⟨p3,0,none⟩ (.slice A n ca)).setCell ⟨p3,1,none⟩ (.slice B m cb)):=((Kept.refl (fun i=>i=p3) w6).setCell (p:=⟨p3,0,none⟩) (.inl rfl) _).setCell (p:=⟨p3,1,none⟩) (.inl rfl) _
 have hnb:∀ (A:Option Addr) (x:Nm),BytesIn w6 A x.length x→∀ ad,A=some ad→0 < x.length→ad.block≠p3:=by
  obtain ⟨a1,c1,e1⟩:=own_slice h.rv.trow
  obtain ⟨a2,c2,e2⟩:=own_slice h.rv.mrow
  subst e1
  subst e2
  exact vocab_notB hc (slice_notB _ _ _) (slice_notB _ _ _)
 have l3:=h.cur.lt
 have l2:=h.le3
 exact {
  rv:=by
   rw [Nat.add_sub_cancel,ofN_good he]
   exact (hI.kept h6).far hk (fun e=>by have:=hF _ e;omega) hnb
  far:=fun i hi=>by have:=hF i hi;constructor <;> omega
  cur:=by
   have:=(hc.set_ 0 (.slice A n ca)).set_ 1 (.slice B m cb)
   simpa [Blk] using this
  res:=(hr.far (p:=⟨p3,0,none⟩) (by show p2≠p3;omega) _).far (p:=⟨p3,1,none⟩) (by show p2≠p3;omega) _
  below:=((below_then h.below h56 h.below.size).setCell (p:=⟨p3,0,none⟩) (by have:=h.le2;show _≤p3;omega) _).setCell (p:=⟨p3,1,none⟩) (by have:=h.le2;show _≤p3;omega) _
  good:=fun j hj=>by
   rcases Nat.lt_or_ge j k with h1 | h1
   ·exact h.good j h1
   ·have:j=k:=by omega
    subst this
    exact he
  le2:=h.le2
  le3:=h.le3 }
theorem two_cellsO {w:World} {g:Nat} {t:TypeId} {x y:Value} (h:Blk w g t #[x,y]):w.cell? ⟨g,0,none⟩=some x∧w.cell? ⟨g,1,none⟩=some y:=by
 have h0:=h.cell 0
 have h1:=h.cell 1
 exact ⟨h0,h1⟩
theorem OfAt.out {w0 w:World} {l:List (Int×Int)} {p2 p3 k j:Nat} {F:Nat→Prop} {b:Nat} {A B:Option Addr} {n m ca cb:Nat} {svs:List Value} (h:OfAt w0 w l p2 p3 k F b (.slice A n ca) (.slice B m cb) svs) (hj:ofN l (k - 1)=ofN l j):
  OfOut w0 (ofN l j) (.returned (vocV A B n m ca cb)) ((w.setCell ⟨p2,0,none⟩ (.slice A n ca)).setCell ⟨p2,1,none⟩ (.slice B m cb)):=by
 have hk:Kept (fun i=>i=p2) w ((w.setCell ⟨p2,0,none⟩ (.slice A n ca)).setCell ⟨p2,1,none⟩ (.slice B m cb)):=((Kept.refl (fun i=>i=p2) w).setCell (p:=⟨p2,0,none⟩) (.inl rfl) _).setCell (p:=⟨p2,1,none⟩) (.inl rfl) _
 have h2:=h.rv.far hk (fun e=>(h.far _ e).1 rfl) (vocab_notB h.res (slice_notB _ _ _) (slice_notB _ _ _))
 rw [hj] at h2
 have hO:=ofN_ok l j
 obtain ⟨A1,B1,c1,c2,e1,e2,hs⟩:=h2.see (by have:=hO.tl;omega) (by have:=hO.ml;omega)
 cases e1
 cases e2
 exact ⟨A,B,_,_,ca,cb,rfl,hs,(h.below.setCell h.le2 _).setCell h.le2 _⟩
theorem OfOut.then {w w1 w2:World} {V:Voc} {e:Ending} (h:OfOut w V e w1) (hb:Below w1.heap.size w1 w2):OfOut w V e w2:=by
 obtain ⟨A,B,n,m,ca,cb,h1,h2,h3⟩:=h
 exact ⟨A,B,n,m,ca,cb,h1,h2.below hb,below_then h3 hb h3.size⟩
theorem results_cell_row {P:Program} {fn:Func} {p:Tmp} {ty:TypeId} (h:fn.results=#[.cell p ty]) (tmps:Array Value) (w:World) (g:Nat) (t:TypeId) (cs:Array Value) (fr:Nat×Nat) (d:TypeDesc)
  (hp:tmps.getD p undef=.pointer (some ⟨g,0,none⟩)) (hg:w.heap[g]?=some (.cells cs t fr))
  (hu:P.underlying ty=some d) (hd:(match d with | .struct _ | .array _ _=>true | _=>false)=true) (hi:(P.info? ty).map (·.size)=some cs.size):
  (results fn tmps).run P w=.ok (.agg cs) w:=by
 have hp':tmps[p]?.getD undef=.pointer (some ⟨g,0,none⟩):=by simpa using hp
 simp only [results,h]
 simp [Sem.run_bind,Result.andThen,hp',asAddr,run_loadVar_row w g t ty cs fr d hg hu hd hi]
theorem r6Of_any (w:World) (A:Option Addr) (n c:Nat) (l:List (Int×Int)) (hl:PairsIn w A n l) (hn:n≤1048576) (hc:n≤c):
  Calls Tryz.prog 11 #[.slice A n c] w (OfOut w (ofV l)):=by
 have HL:=Lib.hid hl
 have hll:=hl.len
 have HLL:=Lib.hid hll
 clear hl hll
 obtain ⟨V,hV⟩:∃ V,V=ofV l:=⟨_,rfl⟩
 rw [← hV]
 have HVV:=Lib.hid hV
 clear hV
 obtain ⟨W1,hW1⟩:∃ W1,W1=w.alloc (.cells #[.slice none 0 0,.slice none 0 0] 30):=⟨_,rfl⟩
 have hv0:Blk W1 w.heap.size 30 #[.slice none 0 0,.slice none 0 0]:=by rw [hW1];exact Blk.new _ _ _
 have hb1:Below w.heap.size w W1:=by rw [hW1];exact (Below.refl _ w).alloc (Nat.le_refl _) _
 have HW1:=Lib.hid hW1
 have HV0:=Lib.hid hv0
 have HB1:=Lib.hid hb1
 clear hW1 hv0 hb1
 go_enter Tryz.func11,Tryz.ntmps11
 go_wp2_with fail
 rw [← HW1.out]
 refine ((r5Build_any W1 none 0 0 [] (PairsIn.none _) (by omega))).mono ?_
 rintro e w2 ⟨tv,mv,svs,F,b,rfl,hb2,h0,-⟩
 obtain ⟨hI,hF⟩:=h0 rfl
 obtain ⟨TA,tca,rfl⟩:=own_slice hI.trow
 obtain ⟨MB,mcb,rfl⟩:=own_slice hI.mrow
 have h256:(buildAll []).1.tok.length=256:=ones_len
 have h00:(buildAll []).1.mer.length=0:=rfl
 have hR:OfAt w (w2.alloc (.cells #[.slice TA (buildAll []).1.tok.length tca,.slice MB (buildAll []).1.mer.length mcb] 30)) l w.heap.size w2.heap.size 0 F b (.slice TA (buildAll []).1.tok.length tca) (.slice MB (buildAll []).1.mer.length mcb) svs:={
  rv:=hI.kept ((Below.refl _ w2).alloc (Nat.le_refl _) _)
  far:=fun i hi=>by have h1:=hF i hi;have h2:=hI.lt i hi;have h3:=HV0.out.lt;constructor <;> omega
  cur:=Blk.new _ _ _
  res:=(HV0.out.below hb2 HV0.out.lt).alloc _
  below:=(below_then HB1.out hb2 HB1.out.size).alloc (by have:=HB1.out.size;have:=hb2.size;omega) _
  good:=fun j hj=>by omega
  le2:=Nat.le_refl _
  le3:=Nat.lt_of_lt_of_le HV0.out.lt hb2.size }
 have HR:=Lib.hid hR
 clear hI hF h0 hb2 hR
 go_wp2_with fail
 go_loopw [5] (fun i wr=>∃ (k:Nat) (A B:Option Addr) (n' m' ca cb:Nat) (F:Nat→Prop) (b:Nat) (svs:List Value),k≤n+1∧k≤600∧i=.int .i64 (k:Nat)∧OfAt w wr l w.heap.size w2.heap.size k F b (.slice A n' ca) (.slice B m' cb) svs) (fun i _=>n+1 - (intOf i).toNat)
 case atStart=>exact ⟨0,_,_,_,_,_,_,_,_,_,by omega,by omega,rfl,HR.out⟩
 case round=>
  obtain ⟨k,A,B,n',m',ca,cb,F,b,svs,hk1,hk2,rfl,hR⟩:=hrel
  have HR:=Lib.hid hR
  obtain ⟨m0,m1⟩:=two_cellsO hR.cur
  clear hR
  by_cases hin:k≤n∧k < 600
  ·obtain ⟨h1,h2⟩:=hin
   have d1:(k:Int)≤(n:Int):=by omega
   have d2:(k:Int) < 600:=by omega
   have d3:(0:Int)≤(k:Int):=by omega
   have d4:(k:Int)≤(c:Int):=by omega
   have d5:k≤c:=by omega
   clear m0 m1
   go_wp2_with fail
   refine (r5Build_any wr _ k c (l.take k) ((HL.out.below HR.out.below).upto k h1) (by omega)).mono ?_
   rintro e w5 ⟨tv,mv,svs',F',b',rfl,hb5,h0,hz⟩
   by_cases he:(buildAll (l.take k)).2=0
   ·obtain ⟨hI,hF⟩:=h0 he
    obtain ⟨TA,tca,rfl⟩:=own_slice hI.trow
    obtain ⟨MB,mcb,rfl⟩:=own_slice hI.mrow
    rw [he]
    have HN:=Lib.hid (HR.out.next hb5 hI hF he (Below.refl _ w5))
    have HR5:=Lib.hid (HR.out.then hb5)
    clear h0 hz hb5 hI hF he
    obtain ⟨m0,m1⟩:=two_cellsO HR5.out.cur
    have z0:=HR5.out.cur.frozen 0
    have z1:=HR5.out.cur.frozen 1
    have q3:=HR5.out.cur.lt
    go_wp2_with fail
    go_roundw
    case rel=>exact ⟨k+1,_,_,_,_,_,_,_,_,_,by omega,by omega,by go_num,HN.out.then ((Below.refl _ _).alloc (Nat.le_refl _) _)⟩
    case measure=>simp [intOf];omega
   ·obtain ⟨rfl,rfl⟩:=hz he
    have HR5:=Lib.hid (HR.out.then hb5)
    have HE:=Lib.hid he
    obtain ⟨E,hE⟩:∃ E,E=(buildAll (l.take k)).2:=⟨_,rfl⟩
    rw [← hE] at he ⊢
    have d6:(E != 0)=true:=by simpa using he
    clear h0 hz hb5 he
    obtain ⟨m0,m1⟩:=two_cellsO HR5.out.cur
    obtain ⟨r0,r1⟩:=two_cellsO HR5.out.res
    have z0:=HR5.out.res.frozen 0
    have z1:=HR5.out.res.frozen 1
    have q2:=HR5.out.res.lt
    have q3:=HR5.out.cur.lt
    go_wp2_with fail
    refine bodyPost_ret (results_cell_row rfl _ _ w.heap.size 30 #[.slice A n' ca,.slice B m' cb] (0,0) _ rfl ?_ Tryz.underlying30 rfl vocabCells) rfl ?_
    ·have:=((HR5.out.res.set_ 0 (.slice A n' ca)).set_ 1 (.slice B m' cb)).alloc (.cells #[.slice none 0 0,.slice none 0 0] 30)
     simpa [Blk] using this
    ·have hk0:k≠0:=fun e=>HE.out (by rw [e];rfl)
     have hst:ofV l=ofN l (k - 1):=by
      unfold ofV
      rw [HLL.out]
      exact ofN_stop (by rw [Nat.sub_add_cancel (by omega)];exact HE.out) _ (by omega)
     rw [HVV.out,hst]
     exact (HR5.out.out rfl).then ((Below.refl _ _).alloc (Nat.le_refl _) _)
  ·have hgo:¬ ((k:Int)≤(n:Int))∨((k:Int)≤(n:Int)∧¬ ((k:Int) < 600)):=by omega
   have HJ:Hid (V=ofN l (k - 1)):=Lib.hid (by
    rw [HVV.out]
    unfold ofV
    rw [HLL.out]
    congr 1
    omega)
   obtain ⟨r0,r1⟩:=two_cellsO HR.out.res
   have z0:=HR.out.res.frozen 0
   have z1:=HR.out.res.frozen 1
   rcases hgo with d1 | ⟨d1,d2⟩
   ·go_wp2_with fail
    refine bodyPost_ret (results_cell_row rfl _ _ w.heap.size 30 #[.slice A n' ca,.slice B m' cb] (0,0) _ rfl ?_ Tryz.underlying30 rfl vocabCells) rfl ?_
    ·have:=(HR.out.res.set_ 0 (.slice A n' ca)).set_ 1 (.slice B m' cb)
     simpa [Blk] using this
    ·rw [HJ.out]
     exact HR.out.out rfl
   ·go_wp2_with fail
    refine bodyPost_ret (results_cell_row rfl _ _ w.heap.size 30 #[.slice A n' ca,.slice B m' cb] (0,0) _ rfl ?_ Tryz.underlying30 rfl vocabCells) rfl ?_
    ·have:=(HR.out.res.set_ 0 (.slice A n' ca)).set_ 1 (.slice B m' cb)
     simpa [Blk] using this
    ·rw [HJ.out]
     exact HR.out.out rfl
end Go.Proofs.YthcjikpabpgpfaaGreat
