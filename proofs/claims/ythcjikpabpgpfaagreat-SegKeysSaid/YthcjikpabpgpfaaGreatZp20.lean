import Derived.Test.YthcjikpabpgpfaaGreatZp0
import Derived.Test.YthcjikpabpgpfaaGreatZp15
import Derived.Lib.AppendZerosOnto
import Derived.StillTailTactics
import Derived.Deep.RegionHeld3
import Derived.Test.YthcjikpabpgpfaaGreatZp16
import Derived.Test.YthcjikpabpgpfaaGreatZp10
import Derived.Test.YthcjikpabpgpfaaGreatZp12
import Derived.Shelf.Abstract
import Derived.Test.YthcjikpabpgpfaaGreatZp13
import Derived.Test.YthcjikpabpgpfaaGreatZp5
import Derived.Test.YthcjikpabpgpfaaGreatZp7
import Derived.RegionTactic
import Derived.Test.YthcjikpabpgpfaaGreatZp9
set_option linter.unusedSimpArgs false
set_option maxHeartbeats 16000000
set_option maxRecDepth 100000
namespace Go.Proofs.YthcjikpabpgpfaaGreat
open Go.RowKit Go.Maps Go.WideMaps
theorem sGrow_any (w:World) (n:Nat) (h0:0 < n) (hn:n≤1099511627776):
  Calls Tryz.prog 79 #[.slice none 0 0,.int .i64 n] w fun e w'=>∃ c,e=.returned (.slice (some ⟨w.heap.size,0,none⟩) 0 c)∧w'.ownsRow w.heap.size 5 1 (.slice (some ⟨w.heap.size,0,none⟩) 0 c) 0 []∧Below w.heap.size w w':=by
 obtain ⟨i0,hi,hz0,hz1,hz2⟩:=info_parts byteInfo
 have hG:=grownCap_le_maxLen w n 0 5 (by unfold maxLen;omega)
 have hGn:n≤grownCap w n 0 5:=grownCap_ge w _ _ _
 have hfit:Builtin.nextslicecap n 0 * i0.bytes≤281474976710656:=growslice_fits (by omega) (by rw [hz2];omega)
 have hrz:∀ ty,(Builtin.append_ #[24,3] ty #[.slice none 0 0,.int .i64 (n:Int)]).run Tryz.prog w=
   .ok (.slice (some ⟨w.heap.size,0,none⟩) n (grownCap w n 0 5)) (w.drew.alloc (.cells (#[]++Builtin.zeroCells (Value.int .u8 0).cells n++Builtin.zeroCells (Value.int .u8 0).cells (grownCap w n 0 5 - n)) 5)):=fun ty=>by
  have h:=Lib.run_append_grow_zeros w 24 3 ty 5 i0 (.int .u8 0) .i64 .i64 Tryz.underlying24 Tryz.underlying3 hi hz0 none 0 0 [] (run_firstCells_none w.drew i0.size 0 0 0) n h0 (by rw [hz1];omega) (by omega) (by omega) (by rw [hz2];omega) (by simpa using hfit)
  simpa using h
 obtain ⟨G,hGe⟩:∃ G,G=grownCap w n 0 5:=⟨_,rfl⟩
 rw [← hGe] at hG hGn hrz
 have hown:=World.ownsRow_made (base:=w.heap.size) (e:=5) (size:=1) w.drew (#[]++Builtin.zeroCells (Value.int .u8 0).cells n++Builtin.zeroCells (Value.int .u8 0).cells (G - n)) G (Nat.le_refl _) hG (by
  simp only [Array.size_append,size_zeroCells]
  have:(Value.int .u8 0).cells.size=1:=rfl
  rw [this]
  simp
  omega)
 have hbel:Below w.heap.size w (w.drew.alloc (.cells (#[]++Builtin.zeroCells (Value.int .u8 0).cells n++Builtin.zeroCells (Value.int .u8 0).cells (G - n)) 5)):=(Below.refl _ w).drew.alloc (Nat.le_refl _) _
 obtain ⟨W2,hW2⟩:∃ W2,W2=w.drew.alloc (.cells (#[]++Builtin.zeroCells (Value.int .u8 0).cells n++Builtin.zeroCells (Value.int .u8 0).cells (G - n)) 5):=⟨_,rfl⟩
 rw [← hW2] at hrz hown hbel
 have HO:=Lib.hid hown
 have HB:=Lib.hid hbel
 have hs0:∀ w:World,(Instr.slice 24 (.slice none 0 0) none (some (.int .i64 0)) none).run Tryz.prog w=.ok (.slice none 0 0) w:=fun w=>by
  have:=slice_to w none 0 0 0 (Nat.le_refl _)
  simpa using this
 have hs1:∀ w1:World,(Instr.slice 24 (.slice (some ⟨w.heap.size,0,none⟩) n G) none (some (.int .i64 0)) none).run Tryz.prog w1=.ok (.slice (some ⟨w.heap.size,0,none⟩) 0 G) w1:=fun w1=>by
  have:=slice_to w1 (some ⟨w.heap.size,0,none⟩) n G 0 (Nat.zero_le _)
  simpa using this
 have p1:(0:Int) < (n:Int):=by omega
 have p2:¬ (n:Int) < 0:=by omega
 have p3:(n:Int)≤1099511627776:=by omega
 clear hG hGn hfit hGe hown hbel hW2 hi hz0 hz1 hz2
 go_enter Tryz.func79,Tryz.ntmps79
 go_wp2_with (at_builtin;refine Lib.wpList_append_run _ rfl _ _ _ _ rfl _ _ rfl rfl _ _ (hrz _) ?_)
 go_ret
 exact ⟨G,rfl,HO.out,HB.out⟩
theorem cat_one (x:Nm):∀ u∈x.map byteV,u.oneCell'=true:=u8_one x
theorem concat_any (w:World) (g:Nat) (A B:Option Addr) (n m c d:Nat) (x y:Nm) (hg:Blk w g 24 #[.slice A n c,.slice B m d]) (hx:BytesIn w A n x) (hy:BytesIn w B m y) (h0:0 < n+m) (hn:n≤1048576) (hm:m≤1048576):
  Calls Tryz.prog 34 #[.slice (some ⟨g,0,none⟩) 2 2] w fun e w'=>∃ v,e=.returned v∧w'.ownsRow w.heap.size 5 1 v (n+m) ((x++y).map byteV)∧Below w.heap.size w w':=by
 obtain ⟨i0,hi,hz0,hz1,hz2⟩:=info_parts byteInfo
 have HG:=Lib.hid hg
 have HX:=Lib.hid hx
 have HY:=Lib.hid hy
 have e0:=hg.cell 0
 have e1:=hg.cell 1
 simp only [lz0,lz1,lz2] at e0 e1
 have p1:¬ ((n:Int) < 0):=by omega
 obtain ⟨t,ht⟩:∃ t:Nat,t=n+m:=⟨_,rfl⟩
 have ht':(n:Int)+(m:Int)=(t:Int):=by omega
 have ht2:t≤2097152:=by omega
 have p2:¬ ((t:Int) < 0):=by omega
 have HT:=Lib.hid ht
 have p3:0 < t:=by omega
 clear ht
 clear hg hx hy
 go_enter Tryz.func34,Tryz.ntmps34
 go_wp2
 refine wp_loop_rounds 3 ?_
 rw [rounds_succ]
 go_wp2
 rw [rounds_succ]
 go_wp2
 rw [rounds_succ]
 go_wp2_with fail
 refine (sGrow_any _ t p3 (by omega)).mono ?_
 rintro e w1 ⟨c1,rfl,hown,hb⟩
 have e0':=(HG.out.below hb HG.out.lt).cell 0
 have e1':=(HG.out.below hb HG.out.lt).cell 1
 simp only [lz0,lz1,lz2] at e0' e1'
 have HO:=Lib.hid hown
 have HB:=Lib.hid hb
 have X1:=Lib.hid (HX.out.below hb)
 have Y1:=Lib.hid (HY.out.below hb)
 have hsz:=hb.size
 clear hown hb ht' e0 e1
 go_wp2
 refine wp_loop_rounds 3 ?_
 rw [rounds_succ]
 go_wp2_with (at_builtin;refine wpList_append_src _ rfl _ _ 24 rfl w.heap.size 5 i0 (.int .u8 0) 1 Tryz.underlying24 hi hz0 hz1 hz2 rfl _ 0 [] rfl HO.out A n c (x.map byteV) rfl X1.out.2.1 (cat_one x) (by unfold maxLen;omega) (by omega) hsz ?_;intro v2 w2 hown2 hgrow2 hloc2;rw [Nat.zero_add,List.nil_append] at hown2)
 have hb2:Below w.heap.size w w2:=HB.out.grown hgrow2 hsz (fun k e=>by cases e;exact Nat.le_refl _)
 have HB2:=Lib.hid hb2
 have HO2:=Lib.hid hown2
 have hsz2:=hb2.size
 have Y2:=Lib.hid (HY.out.below hb2)
 have e1'':=(HG.out.below hb2 HG.out.lt).cell 1
 simp only [lz0,lz1,lz2] at e1''
 clear hb2 hown2 hgrow2 hloc2 e0' e1' hsz
 obtain ⟨A2,cc2,rfl⟩:=own_slice HO2.out
 rw [rounds_succ]
 go_wp2_with (at_builtin;refine wpList_append_src _ rfl _ _ 24 rfl w.heap.size 5 i0 (.int .u8 0) 1 Tryz.underlying24 hi hz0 hz1 hz2 rfl _ n (x.map byteV) rfl HO2.out B m d (y.map byteV) rfl Y2.out.2.1 (cat_one y) (by unfold maxLen;omega) (by omega) hsz2 ?_;intro v3 w3 hown3 hgrow3 hloc3)
 have hb3:Below w.heap.size w w3:=HB2.out.grown hgrow3 hsz2 (fun k e=>(HO2.out.lt k e).1)
 have HB3:=Lib.hid hb3
 rw [← List.map_append] at hown3
 have HO3:=Lib.hid hown3
 clear hb3 hown3 hgrow3 hloc3 e1''
 rw [rounds_succ]
 go_wp2
 go_ret
 exact ⟨_,rfl,HO3.out,HB3.out⟩
theorem IsGrow.tok {w:World} {F:Nat→Prop} {b:Nat} {V:Voc} {tv mv:Value} {bt bp:Nat} {svs:List Value} {DT DP:DataW Unit} (h:IsGrow w F b V tv mv bt bp svs DT DP) {i:Nat} {x:Nm} (hx:V.tok[i]?=some x):
  ∃ ad n c A k,tv=.slice (some ad) n c∧i < n∧w.cell? (ad.add i)=some (.slice A x.length k)∧x.length≤k∧BytesIn w A x.length x:=by
 obtain ⟨A0,c0,e0⟩:=own_slice h.trow
 have hi:=(List.getElem?_eq_some_iff.1 hx).1
 have hl:svs.length=V.tok.length:=by have:=h.trow.1;simpa using this
 have hs:svs[i]?=some (svs[i]'(by omega)):=List.getElem?_eq_getElem _
 obtain ⟨A,k,h1,h2,h3,_⟩:=h.toks i _ x hs hx
 have ht:=h.trow
 rw [e0] at ht
 have hsrc:=src_of_own ht
 cases A0 with
 | none=>have:=hsrc.nil rfl;omega
 | some ad=>
  have:=hsrc.cells ad rfl i _ hs
  rw [h1] at this
  exact ⟨ad,_,_,A,k,e0,hi,this,h2,h3⟩
theorem joined_any (w:World) (F:Nat→Prop) (b:Nat) (V:Voc) (hG:Grow w F b V) (i j:Nat) (x y:Nm) (hx:V.tok[i]?=some x) (hy:V.tok[j]?=some y) (h0:0 < x.length+y.length) (hxl:x.length≤1048576) (hyl:y.length≤1048576):
  Calls Tryz.prog 138 #[at0 b,.agg #[.int .i64 i,.int .i64 j]] w fun e w'=>∃ v,e=.returned v∧w'.ownsRow w.heap.size 5 1 v (x.length+y.length) ((x++y).map byteV)∧Below w.heap.size w w':=by
 obtain ⟨tv,mv,bt,bp,svs,DT,DP,h⟩:=hG
 obtain ⟨ad,n,c,A,k,rfl,hi,ei,hk,hA⟩:=h.tok hx
 obtain ⟨_,_,_,B,k2,e2,hj,ej,hk2,hB⟩:=h.tok hy
 cases e2
 have HBK:=Lib.hid h.blk
 have b1:Below w.heap.size w (w.alloc (.cells #[.int .i64 i,.int .i64 j] 73)):=(Below.refl _ w).alloc (Nat.le_refl _) _
 obtain ⟨W1,hW1⟩:∃ W1,W1=w.alloc (.cells #[.int .i64 i,.int .i64 j] 73):=⟨_,rfl⟩
 have hpb:Blk W1 w.heap.size 73 #[.int .i64 i,.int .i64 j]:=by rw [hW1];exact Blk.new _ _ _
 rw [← hW1] at b1
 have HB1:=Lib.hid b1
 have HA:=Lib.hid (hA.below b1)
 have HB:=Lib.hid (hB.below b1)
 have g0:W1.cell? ⟨b,0,none⟩=some (.slice (some ad) n c):=by
  have:=(HBK.out.below b1 HBK.out.lt).cell 0
  simpa using this
 have g1:W1.cell? ⟨w.heap.size,0,none⟩=some (.int .i64 i):=by
  have:=hpb.cell 0
  simpa using this
 have g2:W1.cell? ⟨w.heap.size,1,none⟩=some (.int .i64 j):=by
  have:=hpb.cell 1
  simpa using this
 have g3:W1.cell? (ad.add i)=some (.slice A x.length k):=(b1.cell (World.block_lt_of_cell? w _ ei)).trans ei
 have g4:W1.cell? (ad.add j)=some (.slice B y.length k2):=(b1.cell (World.block_lt_of_cell? w _ ej)).trans ej
 have hiz:(i:Int) < (n:Int):=by omega
 have hjz:(j:Int) < (n:Int):=by omega
 have hi0:(0:Int)≤(i:Int):=by omega
 have hj0:(0:Int)≤(j:Int):=by omega
 clear h ei ej hA hB b1 hpb hx hy
 have HW:=Lib.hid hW1
 clear hW1
 unfold at0
 go_enter Tryz.func138,Tryz.ntmps138
 go_wp2_with fail
 rw [← HW.out]
 go_still_tail 18,(by kernel_rfl)
 change wpList _ _ _ _ _ W1.drew
 have hs1:W1.heap.size=w.heap.size+1:=by rw [HW.out];simp
 obtain ⟨W2,hW2⟩:∃ W2,W2=(W1.alloc (.cells #[.slice A x.length k,.slice B y.length k2] 24)).drew:=⟨_,rfl⟩
 have hb2:Below w.heap.size w W2:=by rw [hW2];exact (HB1.out.alloc (by omega) _).drew
 have hn:Blk W2 (w.heap.size+1) 24 #[.slice A x.length k,.slice B y.length k2]:=by rw [hW2,← hs1];exact Blk.new W1 _ _
 have hbd:Below W1.heap.size W1 W2:=by rw [hW2];exact ((Below.refl _ W1).alloc (Nat.le_refl _) _).drew
 have HW2:=Lib.hid hW2
 have HN:=Lib.hid hn
 have HA2:=Lib.hid (HA.out.below hbd)
 have HB2:=Lib.hid (HB.out.below hbd)
 have HBB:=Lib.hid hb2
 clear hW2 hbd
 clear g0 g1 g2 g3 g4 hn hb2 HA HB HB1
 go_wp2_with fail
 rw [← HW2.out]
 refine (concat_any W2 (w.heap.size+1) A B x.length y.length k k2 x y HN.out HA2.out HB2.out h0 hxl hyl).mono ?_
 rintro e w2 ⟨v,rfl,hown,hb⟩
 have HO:=Lib.hid (Go.Joins.ownsRow_le hown HBB.out.size)
 have HF:=Lib.hid (below_then HBB.out hb HBB.out.size)
 clear hown hb hs1
 go_wp2
 go_ret
 exact ⟨_,rfl,HO.out,HF.out⟩
def rRest (s:Rd):Nm:=if s.e≠0 then [] else s.bs.drop s.p
theorem rRest_ok {s:Rd} (h:s.e=0):rRest s=s.bs.drop s.p:=by unfold rRest;rw [if_neg (by simpa using h)]
theorem rRest_bad {s:Rd} (h:s.e≠0):rRest s=[]:=by unfold rRest;rw [if_pos h]
theorem rRest_len {s:Rd}:(rRest s).length=rLeft s:=by
 unfold rRest rLeft
 split
 ·rfl
 ·simp
structure IsR (w:World) (b:Nat) (g:Nat→Prop) (s:Rd):Prop where
 at_:∃ A c,Blk w b 255 #[.slice A (rRest s).length c,.int .i64 s.e]∧BytesIn w A (rRest s).length (rRest s)∧(rRest s).length≤c∧∀ ad,A=some ad→0 < (rRest s).length→g ad.block
 ne:¬ g b
 lt:∀ i,g i→i < w.heap.size
 ok:s.Ok
 fit:s.bs.length≤1099511627776
theorem IsR.kept {w w':World} {b:Nat} {g:Nat→Prop} {s:Rd} (h:IsR w b g s) {F:Nat→Prop} (hk:Kept F w w') (hb:¬ F b) (hg:∀ i,g i→¬ F i):IsR w' b g s:=by
 obtain ⟨A,c,h1,h2,h3,h4⟩:=h.at_
 exact ⟨⟨A,c,h1.kept hk hb,h2.keep hk (fun ad e h0=>hg _ (h4 ad e h0)),h3,h4⟩,h.ne,fun i hi=>Nat.lt_of_lt_of_le (h.lt i hi) hk.size,h.ok,h.fit⟩
theorem lErr_any (w:World) (b:Nat) (g:Nat→Prop) (s:Rd) (hR:IsR w b g s):
  Calls Tryz.prog 150 #[at0 b] w fun e w'=>e=.returned (.int .i64 s.e)∧w'=w:=by
 obtain ⟨A,c,h1,h2,h3,h4⟩:=hR.at_
 have c1:=h1.cell 1
 simp at c1
 clear h1 h2 h3 h4 hR
 unfold at0
 go_enter Tryz.func150,Tryz.ntmps150
 go_wp2
 go_ret
 exact ⟨rfl,rfl⟩
theorem lLeft_any (w:World) (b:Nat) (g:Nat→Prop) (s:Rd) (hR:IsR w b g s):
  Calls Tryz.prog 151 #[at0 b] w fun e w'=>e=.returned (.int .i64 (rLeft s))∧w'=w:=by
 obtain ⟨A,c,h1,h2,h3,h4⟩:=hR.at_
 rw [rRest_len] at h1
 have c0:=h1.cell 0
 simp at c0
 clear h1 h2 h3 h4 hR
 unfold at0
 go_enter Tryz.func151,Tryz.ntmps151
 go_wp2
 go_ret
 exact ⟨rfl,rfl⟩
def ReadOut (w:World) (b:Nat) (g:Nat→Prop) (s:Rd) (FF:Nat→Prop) (Q:Nat→Int→World→Prop) (e:Ending) (w':World):Prop:=
 e=.returned (.tuple #[])∧((s.e≠0∧w'=w)∨(s.e=0∧∃ k er w1,Q k er w1∧Kept FF w w1∧Kept (fun i=>i=b) w1 w'∧IsR w' b g (if er≠0 then { s with e:=er } else { s with p:=s.p+k })))
theorem lRead_any (f:Nat) (cap:Array Value) (eg:∀ args w,(callFunc f args).run Tryz.prog w=.ok (.enter f args) w) (w:World) (b:Nat) (g:Nat→Prop) (s:Rd) (hR:IsR w b g s) (FF:Nat→Prop) (hb:¬ FF b) (hg:∀ i,g i→¬ FF i) (Q:Nat→Int→World→Prop)
  (hcl:s.e=0→∀ A c,BytesIn w A (rRest s).length (rRest s)→(rRest s).length≤c→Calls Tryz.prog f (#[.slice A (rRest s).length c]++cap) w fun e w1=>∃ (k:Nat) (er:Int),e=.returned (.tuple #[.int .i64 k,.int .i64 er])∧Q k er w1∧Kept FF w w1∧(er=0→k≤(rRest s).length)):
  Calls Tryz.prog 146 #[at0 b,.func (.func f) #[] cap] w (ReadOut w b g s FF Q):=by
 have HR:=Lib.hid hR
 obtain ⟨A,c,h1,h2,h3,h4⟩:=hR.at_
 have c0:=h1.cell 0
 have c1:=h1.cell 1
 simp at c0 c1
 have hfit:=hR.fit
 clear hR
 unfold at0
 by_cases he:s.e=0
 ·have HC:=Lib.hid (hcl he A c h2 h3)
  have d0:(s.e != 0)=false:=by simpa using he
  obtain ⟨n,hn⟩:∃ n,n=(rRest s).length:=⟨_,rfl⟩
  have hnl:n≤1099511627776:=by
   rw [hn,rRest_ok he,List.length_drop]
   omega
  rw [← hn] at c0 h1 h3 h2 h4
  have H1:=Lib.hid h1
  have H2:=Lib.hid h2
  have H4:=Lib.hid h4
  have HE:=Lib.hid he
  have HNN:=Lib.hid hn
  have hc2:=HC.out
  rw [← hn] at hc2
  have HC2:=Lib.hid hc2
  clear HC h1 h2 h4 he hn hc2 hcl
  go_enter Tryz.func146,Tryz.ntmps146
  go_wp2_with fail
  refine HC2.out.mono ?_
  rintro e w1 ⟨k,er,rfl,hQ,hK,hkn⟩
  have HQ:=Lib.hid hQ
  have HK:=Lib.hid hK
  have b1:=H1.out.kept hK hb
  have k0:=b1.cell 0
  have k1:=b1.cell 1
  have z0:=b1.frozen 0
  have z1:=b1.frozen 1
  simp at k0 k1
  have B1:=Lib.hid b1
  clear hQ hK b1 c0 c1
  by_cases her:er=0
  ·subst her
   have hkn2:=hkn rfl
   clear hkn
   have hkn:=hkn2
   clear hkn2
   have s1:∀ w,(Instr.slice 24 (.slice A n c) (some (.int .i64 k)) none none).run Tryz.prog w=.ok (.slice (cutAddr A k c) (n - k) (c - k)) w:=fun w=>slice_from w A n c k hkn
   go_wp2
   go_end0
   refine ⟨rfl,.inr ⟨HE.out,k,0,w1,HQ.out,HK.out,(Kept.refl (fun i=>i=b) w1).setCell (.inl rfl) _,?_⟩⟩
   rw [if_neg (by simp)]
   have hr:rRest s=s.bs.drop s.p:=rRest_ok HE.out
   have hr2:rRest { s with p:=s.p+k }=s.bs.drop (s.p+k):=rRest_ok (s:={ s with p:=s.p+k }) HE.out
   have hln:n=s.bs.length - s.p:=by rw [HNN.out,hr,List.length_drop]
   have hl2:(s.bs.drop (s.p+k)).length=n - k:=by rw [List.length_drop,hln];omega
   have hin:=(H2.out.keep HK.out (fun ad e h0=>hg _ (H4.out ad e h0))).sub h3 k n hkn (Nat.le_refl _)
   have e3:((rRest s).take n).drop k=s.bs.drop (s.p+k):=by
    rw [HNN.out,List.take_length,hr,List.drop_drop]
   rw [e3] at hin
   have hp:=HR.out.ok.place
   refine ⟨⟨cutAddr A k c,c - k,?_,?_,?_,?_⟩,HR.out.ne,fun i hi=>by have h1:=HR.out.lt i hi;have h2:=HK.out.size;simp [World.setCell];omega,⟨by simp only;omega⟩,HR.out.fit⟩
   ·rw [hr2,hl2]
    exact B1.out.set_ 0 _
   ·rw [hr2,hl2]
    exact hin.keep ((Kept.refl (fun i=>i=b) w1).setCell (.inl rfl) _) (fun ad e h0=>by
     have hbk:g ad.block:=by
      unfold cutAddr at e
      split at e
      ·exact H4.out ad e (by omega)
      ·cases hA:A with
       | none=>rw [hA] at e;cases e
       | some a=>
        rw [hA] at e
        simp only [Option.map_some,Option.some.injEq] at e
        subst e
        have hb:(a.add k).block=a.block:=by unfold Addr.add;split <;> rfl
        rw [hb]
        exact H4.out a hA (by omega)
     exact fun e=>HR.out.ne (e ▸ hbk))
   ·rw [hr2,hl2];omega
   ·rw [hr2,hl2]
    intro ad e h0
    unfold cutAddr at e
    split at e
    ·exact H4.out ad e (by omega)
    ·cases hA:A with
     | none=>rw [hA] at e;cases e
     | some a=>
      rw [hA] at e
      simp only [Option.map_some,Option.some.injEq] at e
      subst e
      have hb:(a.add k).block=a.block:=by unfold Addr.add;split <;> rfl
      rw [hb]
      exact H4.out a hA (by omega)
  ·have d1:(er != 0)=true:=by simpa using her
   have HER:=Lib.hid her
   clear her
   go_wp2
   go_end0
   refine ⟨rfl,.inr ⟨HE.out,k,er,w1,HQ.out,HK.out,((Kept.refl (fun i=>i=b) w1).setCell (.inl rfl) _).setCell (.inl rfl) _,?_⟩⟩
   rw [if_pos HER.out]
   have hr2:rRest { s with e:=er }=[]:=rRest_bad (s:={ s with e:=er }) HER.out
   refine ⟨⟨none,0,?_,?_,?_,?_⟩,HR.out.ne,fun i hi=>by have h1:=HR.out.lt i hi;have h2:=HK.out.size;simp [World.setCell];omega,⟨HR.out.ok.place⟩,HR.out.fit⟩
   ·rw [hr2]
    exact (B1.out.set_ 0 _).set_ 1 _
   ·rw [hr2];exact BytesIn.nil _
   ·rw [hr2];exact Nat.zero_le _
   ·intro ad e;cases e
 ·have d0:(s.e != 0)=true:=by simpa using he
  have HE:=Lib.hid he
  clear he hcl h1 h2 h3 h4
  go_enter Tryz.func146,Tryz.ntmps146
  go_wp2
  go_end0
  exact ⟨rfl,.inl ⟨HE.out,rfl⟩⟩
end Go.Proofs.YthcjikpabpgpfaaGreat
namespace Go.Proofs.YthcjikpabpgpfaaGreat
open Go.RowKit Go.Maps Go.WideMaps Go.Shelf
theorem calls_at {P:Program} {f:FuncId} {args:Array Value} {w:World} {Q:Ending→World→Prop} (h:∀ W,W=w→Calls P f args W Q):Calls P f args w Q:=h w rfl
def intRes (l:Nm) (most:Int):Int×Nat×Int:=
 if (getL l).2.2≠0 then (0,0,(getL l).2.2) else if most < 0∨most < ((getL l).1:Int) then (0,0,32) else ((getL l).1,(getL l).2.1,0)
theorem rInt_eq {s:Rd} (hs:s.e=0) (most:Int):rInt s most=((intRes (rRest s) most).1,if (intRes (rRest s) most).2.2≠0 then { s with e:=(intRes (rRest s) most).2.2 } else { s with p:=s.p+(intRes (rRest s) most).2.1 }):=by
 unfold rInt intRes
 rw [if_neg (by simpa using hs),rRest_ok hs]
 rcases getL (s.bs.drop s.p) with ⟨v,j,e⟩
 by_cases he:e=0
 ·subst he
  by_cases hm:most < 0∨most < (v:Int)
  ·simp [hm]
  ·simp [hm]
 ·simp [he]
theorem lInt1_any (w:World) (A:Option Addr) (n c:Nat) (l:Nm) (hl:BytesIn w A n l) (m f:Nat) (most:Int) (hm1:-9223372036854775808≤most) (hm2:most≤9223372036854775807) (hm:Blk w m 3 #[.int .i64 most]) (hf:Blk w f 3 #[.int .i64 0]):
  Calls Tryz.prog 147 #[.slice A n c,at0 m,at0 f] w fun e w1=>e=.returned (.tuple #[.int .i64 ((intRes l most).2.1:Nat),.int .i64 (intRes l most).2.2])∧Blk w1 f 3 #[.int .i64 (intRes l most).1]∧Kept (fun i=>i=f) w w1∧((intRes l most).2.2=0→(intRes l most).2.1≤n):=by
 have HL:=Lib.hid hl
 have hln:l.length=n:=by have:=hl.2.1.len;simpa using this
 have HLN:=Lib.hid hln
 have HF:=Lib.hid hf
 have c0:=hm.cell 0
 have f0:=hf.cell 0
 have z0:=hf.frozen 0
 simp at c0 f0
 clear hl hln hm hf
 unfold at0
 obtain ⟨v,j,er,hg⟩:∃ v j e,getL l=(v,j,e):=⟨_,_,_,rfl⟩
 have HG:=Lib.hid hg
 obtain ⟨r,hr⟩:∃ r,r=intRes l most:=⟨_,rfl⟩
 rw [← hr]
 have hr2:r=if er≠0 then (0,0,er) else if most < 0∨most < (v:Int) then (0,0,32) else ((v:Int),j,0):=by
  rw [hr]
  unfold intRes
  rw [hg]
 clear hr hg
 go_enter Tryz.func147,Tryz.ntmps147
 go_wp2_with fail
 refine (lGet_is w A n c l HL.out HG.out).mono ?_
 rintro e w1 ⟨rfl,hw⟩
 rw [hw]
 clear hw
 by_cases he:er=0
 ·subst he
  rw [if_neg (by simp)] at hr2
  by_cases ho:most < 0∨most < (v:Int)
  ·rw [if_pos ho] at hr2
   have hd:=decide_eq_true ho
   clear ho
   go_wp2_with fail
   refine (lOver_any w v most hm1 hm2).mono ?_
   rintro e w1 ⟨rfl,hw⟩
   rw [hw,hd]
   clear hw hd
   go_wp2
   go_ret2
   rw [hr2]
   exact ⟨rfl,HF.out,Kept.refl _ _,fun _=>Nat.zero_le _⟩
  ·rw [if_neg ho] at hr2
   have hd:=decide_eq_false ho
   have hgi:=getL_inv HG.out
   obtain ⟨q1,q2,q3,q4,q5⟩:=hgi
   rw [HLN.out] at q3
   have hvz:IntKind.i64.wrap (v:Int)=(v:Int):=IntWalk.i64_in _ (by omega)
   clear ho q4
   go_wp2_with fail
   refine (lOver_any w v most hm1 hm2).mono ?_
   rintro e w1 ⟨rfl,hw⟩
   rw [hw,hd]
   clear hw hd
   go_wp2
   go_ret2
   rw [hr2]
   exact ⟨rfl,by simpa using HF.out.set_ 0 (.int .i64 (v:Int)),(Kept.refl (fun i=>i=f) w).setCell (.inl rfl) _,fun _=>q3⟩
 ·rw [if_pos he] at hr2
  have d1:(er != 0)=true:=by simpa using he
  have HE:=Lib.hid he
  clear he
  go_wp2
  go_ret2
  rw [hr2]
  exact ⟨rfl,HF.out,Kept.refl _ _,fun _=>Nat.zero_le _⟩
theorem lInt_any (w:World) (b:Nat) (g:Nat→Prop) (s:Rd) (hR:IsR w b g s) (most:Int) (hm1:-9223372036854775808≤most) (hm2:most≤9223372036854775807):
  Calls Tryz.prog 102 #[at0 b,.int .i64 most] w fun e w'=>e=.returned (.int .i64 (rInt s most).1)∧IsR w' b g (rInt s most).2∧Kept (fun i=>i=b) w w':=by
 have HR:=Lib.hid hR
 have hbl:b < w.heap.size:=by obtain ⟨A,c,h1,_⟩:=hR.at_;exact h1.lt
 clear hR
 unfold at0
 go_enter Tryz.func102,Tryz.ntmps102
 go_wp2_with fail
 refine calls_at ?_
 intro W hW
 have hWk:Kept (fun _=>False) w W:=by rw [hW];exact ((Kept.refl _ w).alloc _).alloc _
 have hb1:Blk W w.heap.size 3 #[.int .i64 most]:=by rw [hW];exact (Blk.new _ _ _).alloc _
 have hb2:Blk W (w.heap.size+1) 3 #[.int .i64 0]:=by rw [hW];have:=Blk.new (w.alloc (.cells #[.int .i64 most] 3)) 3 #[.int .i64 0];simpa using this
 have hR2:=HR.out.kept hWk (fun h=>h) (fun _ _ h=>h)
 clear hW
 refine (lRead_any 147 #[at0 w.heap.size,at0 (w.heap.size+1)] (enters_of Tryz.func147 (by kernel_rfl) rfl) W b g s hR2 (fun i=>i=w.heap.size+1) (by omega) (fun i hi e=>by have:=HR.out.lt i hi;omega) (fun k er w1=>s.e=0∧Blk w1 (w.heap.size+1) 3 #[.int .i64 (intRes (rRest s) most).1]∧k=(intRes (rRest s) most).2.1∧er=(intRes (rRest s) most).2.2) ?_).mono ?_
 ·intro hs A c h1 h2
  refine (lInt1_any W A _ c (rRest s) h1 w.heap.size (w.heap.size+1) most hm1 hm2 hb1 hb2).mono ?_
  rintro e w1 ⟨rfl,h3,h4,h5⟩
  exact ⟨_,_,rfl,⟨hs,h3,rfl,rfl⟩,h4,h5⟩
 ·rintro e w' ⟨rfl,h⟩
  have hres:∃ r:Int×Rd,r=rInt s most∧Blk w' (w.heap.size+1) 3 #[.int .i64 r.1]∧IsR w' b g r.2∧Kept (fun i=>i=b) w w':=by
   rcases h with ⟨hs,rfl⟩ | ⟨hs,k,er,w1,⟨_,h1,rfl,rfl⟩,h2,h3,h4⟩
   ·refine ⟨(0,s),?_,hb2,hR2,hWk.mono (fun _ h=>h.elim)⟩
    unfold rInt
    rw [if_pos hs]
   ·refine ⟨((intRes (rRest s) most).1,if (intRes (rRest s) most).2.2≠0 then { s with e:=(intRes (rRest s) most).2.2 } else { s with p:=s.p+(intRes (rRest s) most).2.1 }),?_,h1.kept h3 (by omega),h4,(Kept.trans (F:=fun i=>i=b) (hWk.mono (fun _ h=>h.elim)) h2 ?_).trans h3 (fun i _ h=>h)⟩
    ·exact (rInt_eq hs most).symm
    ·intro i hi h;omega
  obtain ⟨r,hr,hf,hR3,hk3⟩:=hres
  have HRR:=Lib.hid hr
  have f0:=hf.cell 0
  simp at f0
  have HR3:=Lib.hid hR3
  have HK3:=Lib.hid hk3
  clear hr hf hR3 hk3 h hb1 hb2 hR2 hWk
  go_wp2
  go_ret
  rw [← HRR.out]
  exact ⟨rfl,HR3.out,HK3.out⟩
end Go.Proofs.YthcjikpabpgpfaaGreat
namespace Go.Proofs.YthcjikpabpgpfaaGreat
def restP (l:List Pst) (P:Nat):List UInt8:=cat (lin l) P (l.length - P)
def endP (l:List Pst) (P m:Nat):Nat:=min l.length (P+m)
def inB (l:List Pst) (P:Nat):List UInt8:=cat (unitB l) P (endP l P 4 - P)
def inG (l:List Pst) (P:Nat):List UInt8:=cat (linB l) P (endP l P 16 - P)
def restI (l:List Pst) (P:Nat):List UInt8:=blockB l P++(inB l P++restP l (P+4))
theorem rest_cut {l:List Pst} {P m:Nat} (h:P < l.length):restP l P=cat (lin l) P (endP l P m - P)++restP l (P+m):=by
 unfold restP endP
 rcases Nat.lt_or_ge l.length (P+m) with h1 | h1
 ·rw [show l.length - (P+m)=0 by omega,show min l.length (P+m) - P=l.length - P by omega]
  simp [cat]
 ·have:=cat_add (lin l) P m (l.length - (P+m))
  rw [show m+(l.length - (P+m))=l.length - P by omega] at this
  rw [show min l.length (P+m) - P=m by omega]
  exact this
theorem rest_split {l:List Pst} {P:Nat} (h:P < l.length) (h4:P % 4=0):restP l P=(if P % 16=0 then groupB l P else [])++restI l P:=by
 rw [rest_cut (m:=4) h]
 unfold restI
 rw [← List.append_assoc (blockB l P),← List.append_assoc (if P % 16=0 then groupB l P else [])]
 congr 1
 have hk:0 < endP l P 4 - P:=by unfold endP;omega
 have hk4:endP l P 4 - P≤4:=by unfold endP;omega
 unfold inB
 rw [← cat_block l h4 hk hk4]
 obtain ⟨k,hk'⟩:∃ k,endP l P 4 - P=k+1:=⟨endP l P 4 - P - 1,by omega⟩
 rw [hk',cat_cons,cat_cons,lin,List.append_assoc]
 congr 2
 exact cat_congr fun j h1 h2=>by rw [lin,if_neg (by omega)];rfl
theorem group_rest {l:List Pst} {P:Nat} (h:P < l.length) (h16:P % 16=0):restI l P=inG l P++restP l (P+16):=by
 have h1:=rest_split h (by omega)
 rw [if_pos h16,rest_cut (m:=16) h] at h1
 have hk:0 < endP l P 16 - P:=by unfold endP;omega
 have hk4:endP l P 16 - P≤16:=by unfold endP;omega
 rw [cat_group l h16 hk hk4,List.append_assoc] at h1
 exact (List.append_cancel_left h1).symm
def gapP (l:List Pst) (P m:Nat):Nat:=(lastD l (endP l P m) - lastD l P - 1).toNat
theorem last_end {l:List Pst} {P m:Nat} (h:P < l.length) (hm:0 < m):lastD l (endP l P m)=(pAt l (endP l P m - 1)).1:=by
 unfold lastD
 rw [if_neg (by unfold endP;omega)]
theorem last_mono {l:List Pst} (hV:ValidP l) {P E:Nat} (h1:P < E) (h2:E≤l.length):lastD l P < lastD l E:=by
 have h3:=hV.up P (by omega)
 have h4:=docs_mono hV (show P≤E - 1 by omega) (by omega)
 rw [show lastD l E=(pAt l (E - 1)).1 by unfold lastD;rw [if_neg (by omega)]]
 omega
theorem gap_is {l:List Pst} (hV:ValidP l) {P m:Nat} (h:P < l.length) (hm:0 < m):lastD l P+1+(gapP l P m:Int)=lastD l (endP l P m)∧gapP l P m < 2 ^ 40:=by
 have h1:=last_mono hV (P:=P) (E:=endP l P m) (by unfold endP;omega) (by unfold endP;omega)
 have h2:=hV.last (i:=P) (by omega)
 have h3:=hV.last (i:=endP l P m) (by unfold endP;omega)
 unfold gapP
 omega
theorem head_group {l:List Pst} {P:Nat} (h:P < l.length) (h16:P % 16=0):restP l P=putL (gapP l P 16)++(putL (inG l P).length++restI l P):=by
 rw [rest_split h (by omega),if_pos h16]
 unfold groupB headB gapP
 rw [last_end h (by omega),List.append_assoc]
 rfl
theorem head_block {l:List Pst} {P:Nat} (h:P < l.length):restI l P=putL (gapP l P 4)++(putL (inB l P).length++(inB l P++restP l (P+4))):=by
 unfold restI blockB headB gapP
 rw [last_end h (by omega),List.append_assoc]
 rfl
theorem rest_here {l:List Pst} {P:Nat} (h:P < l.length) (h4:P % 4=0) (h16:P % 16≠0):restP l P=restI l P:=by
 rw [rest_split h h4,if_neg h16]
 rfl
theorem inB_len {l:List Pst} (hV:ValidP l) {P:Nat} (h:P < l.length):(inB l P).length≤360000:=by
 have:=units_len hV (i:=P) (k:=endP l P 4 - P) (by unfold endP;omega)
 unfold inB
 have h2:endP l P 4 - P≤4:=by unfold endP;omega
 omega
theorem inG_len {l:List Pst} (hV:ValidP l) {P:Nat} (h:P < l.length):(inG l P).length≤1440320:=by
 have:=linBs_len hV (i:=P) (k:=endP l P 16 - P) (by unfold endP;omega)
 unfold inG
 have h2:endP l P 16 - P≤16:=by unfold endP;omega
 omega
theorem lastD_end (l:List Pst) (P m:Nat):lastD l (min (P+m) l.length)=lastD l (endP l P m):=by unfold endP;rw [Nat.min_comm]
theorem less_part {l:List Pst} (hV:ValidP l) {P m:Nat} {d:Int} (h:P < l.length) (hm:0 < m) (hd:lastD l (endP l P m) < d):∀ i,i < endP l P m→(pAt l i).1 < d:=fun i hi=>by
 rw [last_end h hm] at hd
 have:=docs_mono hV (show i≤endP l P m - 1 by omega) (by unfold endP;omega)
 omega
theorem pAt_sl {l:List Pst} {x y i:Nat} (h:i < y - x):pAt (sl l x y) i=pAt l (x+i):=by
 unfold sl
 rw [pAt_take h,pAt_drop]
theorem sl_len {l:List Pst} {x y:Nat} (h:y≤l.length):(sl l x y).length=y - x:=by
 unfold sl
 rw [List.length_take,List.length_drop]
 omega
theorem sl_drop {l:List Pst} {x y k:Nat}:(sl l x y).drop k=sl l (x+k) y:=by
 unfold sl
 rw [List.drop_take,List.drop_drop,show y - x - k=y - (x+k) by omega]
end Go.Proofs.YthcjikpabpgpfaaGreat
namespace Go.Proofs.YthcjikpabpgpfaaGreat
open Go.RowKit Go.Maps Go.WideMaps
theorem cu_add_block (ad:Addr) (k:Nat):(ad.add k).block=ad.block:=by unfold Addr.add;split <;> rfl
theorem cu_add_add (ad:Addr) (i j:Nat):(ad.add i).add j=ad.add (i+j):=by
 unfold Addr.add
 by_cases hi:i=0
 ·subst hi
  simp
 ·by_cases hj:j=0
  ·subst hj
   simp [hi]
  ·rw [if_neg hi,if_neg hj,if_neg (by omega)]
   simp only [Addr.mk.injEq,and_true,true_and]
   omega
def PostsF (w:World) (F:Nat→Prop) (A:Option Addr) (n:Nat) (l:List Pst):Prop:=
 PostsSee w A n l∧(∀ ad,A=some ad→0 < n→F ad.block)∧∀ ad (i:Nat) (x:Pst),A=some ad→l[i]?=some x→∀ B c,w.cell? (ad.add (i * 2+1))=some (.slice B x.2.length c)→∀ bd,B=some bd→0 < x.2.length→F bd.block
theorem PostsF.keep {w w':World} {F:Nat→Prop} {A:Option Addr} {n:Nat} {l:List Pst} (h:PostsF w F A n l) (hk:∀ i,F i→w'.heap[i]?=w.heap[i]?):PostsF w' F A n l:=by
 obtain ⟨h1,h2,h3⟩:=h
 have hc:∀ ad (i k:Nat) (x:Pst),A=some ad→l[i]?=some x→w'.cell? (ad.add k)=w.cell? (ad.add k):=fun ad i k x e hx=>by
  have hn:=h1.len
  have hi:=(List.getElem?_eq_some_iff.1 hx).1
  exact World.cell?_of_block (by rw [cu_add_block];exact hk _ (h2 ad e (by omega)))
 refine ⟨⟨h1.len,h1.fit,h1.nil,fun ad e i x hx=>?_⟩,h2,fun ad i x e hx B c hB=>h3 ad i x e hx B c (by rw [← hB];exact (hc ad i _ x e hx).symm)⟩
 obtain ⟨q1,q2,B,c,q3,q4,q5⟩:=h1.at_ ad e i x hx
 refine ⟨q1,(hc ad i _ x e hx).trans q2,B,c,(hc ad i _ x e hx).trans q3,q4,⟨q5.len,q5.fit,q5.vals,q5.nil,fun bd eb j q hq=>?_⟩⟩
 have hj:=(List.getElem?_eq_some_iff.1 hq).1
 have hF:=hk _ (h3 ad i x e hx B c q3 bd eb (by omega))
 obtain ⟨c1,c2⟩:=q5.cells bd eb j q hq
 exact ⟨(World.cell?_of_block (by rw [cu_add_block];exact hF)).trans c1,(World.cell?_of_block (by rw [cu_add_block];exact hF)).trans c2⟩
theorem PostsF.mono {w:World} {F G:Nat→Prop} {A:Option Addr} {n:Nat} {l:List Pst} (h:PostsF w F A n l) (hk:∀ i,F i→G i):PostsF w G A n l:=
 ⟨h.1,fun ad e h0=>hk _ (h.2.1 ad e h0),fun ad i x e hx B c hB bd eb h0=>hk _ (h.2.2 ad i x e hx B c hB bd eb h0)⟩
theorem PostsF.nil (w:World) (F:Nat→Prop):PostsF w F none 0 []:=⟨⟨rfl,Nat.zero_le _,(fun _=>rfl),(fun ad e=>(by cases e))⟩,(fun ad e=>(by cases e)),(fun ad i x e=>(by cases e))⟩
theorem PostsO.seeF {w:World} {base n c:Nat} {A:Option Addr} {L:List Pst} (h:PostsO w base (.slice A n c) L) (hn:L.length=n) (h63:n≤maxLen):PostsF w (fun i=>base≤i∧i < w.heap.size) A n L:=by
 have hz:∀ ad,A=some ad→ad=⟨ad.block,0,none⟩:=fun ad e=>by
  obtain ⟨R,h0,h1,h2⟩:=h
  subst e
  rcases h1.2 with ⟨h3,_⟩ | ⟨g,cap,cur,h3,_⟩
  ·cases h3
  ·cases h3;rfl
 have ha:∀ g k,(⟨g,0,none⟩:Addr).add k=⟨g,k,none⟩:=fun g k=>by
  unfold Addr.add
  split
  ·rename_i h0;rw [h0]
  ·simp
 refine ⟨h.see hn h63,fun ad e _=>?_,fun ad i x e hx B c2 hB bd eb h0=>?_⟩
 ·obtain ⟨R,h0,h1,h2⟩:=h
  exact h1.lt ad.block (by rw [e];rfl)
 ·have hz:=hz ad e
  obtain ⟨R,h0',h1,h2⟩:=h
  have hlt:=(List.getElem?_eq_some_iff.1 hx).1
  obtain ⟨p,hp⟩:∃ p,R[i]?=some p:=⟨_,List.getElem?_eq_getElem (by omega)⟩
  obtain ⟨q1,q2,B',cc,q3,q4,q5,q6⟩:=h2 i p x hp hx
  have hc:=h1.cells (g:=ad.block) (by rw [e];rfl) (i * 2+1) _ (doc_at R i 1 p p.2 hp rfl)
  rw [ha] at hc
  rw [hz,ha,hc,q3] at hB
  simp only [Option.some.injEq,Value.slice.injEq] at hB
  obtain ⟨rfl,_⟩:=hB
  have:=q6 bd eb h0
  exact ⟨this.2.1,this.1⟩
def cutAddr2 (A:Option Addr) (p c:Nat):Option Addr:=if c=p then A else A.map (·.add (p * 2))
theorem PostsF.cut {w:World} {F:Nat→Prop} {A:Option Addr} {n c:Nat} {l:List Pst} (h:PostsF w F A n l) (hc:n≤c) {p:Nat} (hp:p≤n):PostsF w F (cutAddr2 A p c) (n - p) (l.drop p):=by
 obtain ⟨h1,h2,h3⟩:=h
 have hl:=h1.len
 have hf:=h1.fit
 unfold cutAddr2
 split
 ·have e:l.drop p=[]:=List.eq_nil_of_length_eq_zero (by simp;omega)
  rw [e,show n - p=0 by omega]
  exact ⟨⟨rfl,Nat.zero_le _,fun _=>rfl,fun ad _ i x hx=>by simp at hx⟩,fun ad _ h0=>by omega,fun ad i x _ hx=>by simp at hx⟩
 ·cases A with
  | none=>
   have hz:=h1.nil rfl
   have e:l.drop p=[]:=List.eq_nil_of_length_eq_zero (by simp;omega)
   rw [e,show n - p=0 by omega]
   exact ⟨⟨rfl,Nat.zero_le _,fun _=>rfl,fun ad _ i x hx=>by simp at hx⟩,fun ad _ h0=>by omega,fun ad i x _ hx=>by simp at hx⟩
  | some a=>
   refine ⟨⟨by simp;omega,by omega,fun e=>by simp at e,fun ad e i x hx=>?_⟩,fun ad e h0=>?_,fun ad i x e hx B c2 hB=>?_⟩
   ·simp at e
    subst e
    rw [List.getElem?_drop] at hx
    rw [cu_add_add,cu_add_add]
    have:=h1.at_ a rfl (p+i) x hx
    rw [show p * 2+i * 2=(p+i) * 2 by omega,show p * 2+(i * 2+1)=(p+i) * 2+1 by omega]
    exact this
   ·simp at e
    subst e
    rw [cu_add_block]
    exact h2 a rfl (by omega)
   ·simp at e
    subst e
    rw [List.getElem?_drop] at hx
    rw [cu_add_add,show p * 2+(i * 2+1)=(p+i) * 2+1 by omega] at hB
    exact h3 a (p+i) x rfl hx B c2 hB
def BytesF (w:World) (F:Nat→Prop) (A:Option Addr) (n:Nat) (l:Nm):Prop:=BytesIn w A n l∧∀ ad,A=some ad→0 < n→F ad.block
theorem BytesF.keep {w w':World} {F:Nat→Prop} {A:Option Addr} {n:Nat} {l:Nm} (h:BytesF w F A n l) (hk:∀ i,F i→w'.heap[i]?=w.heap[i]?) (hs:w.heap.size≤w'.heap.size):BytesF w' F A n l:=
 ⟨⟨h.1.1,h.1.2.1.keep fun ad e h0=>hk _ (h.2 ad e h0),fun ad e h0=>Nat.lt_of_lt_of_le (h.1.2.2 ad e h0) hs⟩,h.2⟩
theorem BytesF.sub {w:World} {F:Nat→Prop} {A:Option Addr} {n c:Nat} {l:Nm} (h:BytesF w F A n l) (hc:n≤c) (p:Nat) (hp:p≤n):BytesF w F (cutAddr A p c) (n - p) (l.drop p):=by
 have hl:l.length=n:=by have:=h.1.2.1.len;simpa using this
 have h1:=h.1.sub hc p n hp (Nat.le_refl _)
 rw [List.take_of_length_le (by omega)] at h1
 refine ⟨h1,fun ad e h0=>?_⟩
 unfold cutAddr at e
 split at e
 ·exact h.2 ad e (by omega)
 ·cases A with
  | none=>cases e
  | some a=>
   simp at e
   subst e
   rw [cu_add_block]
   exact h.2 a rfl (by omega)
structure CuIn (w:World) (F:Nat→Prop) (b:Nat) (A:Option Addr) (n c:Nat) (L:Option Addr) (m k:Nat) (po:List Pst) (lf:Nm):Prop where
 po:PostsF w (fun i=>F i∧i≠b) A n po
 cap:n≤c
 lf:BytesF w (fun i=>F i∧i≠b) L m lf
 room:m≤k∧m≤1099511627776
 own:F b
 low:∀ i,F i→i < w.heap.size
theorem CuIn.kept {w w':World} {F:Nat→Prop} {b:Nat} {A:Option Addr} {n c:Nat} {L:Option Addr} {m k:Nat} {po:List Pst} {lf:Nm} (h:CuIn w F b A n c L m k po lf) (hk:Kept (fun i=>i=b) w w'):CuIn w' F b A n c L m k po lf where
 po:=h.po.keep fun i hi=>hk.block i (h.low i hi.1) hi.2
 cap:=h.cap
 lf:=h.lf.keep (fun i hi=>hk.block i (h.low i hi.1) hi.2) hk.size
 room:=h.room
 own:=h.own
 low:=fun i hi=>Nat.lt_of_lt_of_le (h.low i hi) hk.size
theorem CuIn.all {w w':World} {F:Nat→Prop} {b:Nat} {A:Option Addr} {n c:Nat} {L:Option Addr} {m k:Nat} {po:List Pst} {lf:Nm} (h:CuIn w F b A n c L m k po lf) (hk:∀ i,F i→w'.heap[i]?=w.heap[i]?) (hs:w.heap.size≤w'.heap.size):CuIn w' F b A n c L m k po lf where
 po:=h.po.keep fun i hi=>hk i hi.1
 cap:=h.cap
 lf:=h.lf.keep (fun i hi=>hk i hi.1) hs
 room:=h.room
 own:=h.own
 low:=fun i hi=>Nat.lt_of_lt_of_le (h.low i hi) hs
theorem CuIn.left {w:World} {F:Nat→Prop} {b:Nat} {A:Option Addr} {n c:Nat} {L:Option Addr} {m k:Nat} {po:List Pst} {lf:Nm} (h:CuIn w F b A n c L m k po lf) {p:Nat} (hp:p≤m):CuIn w F b A n c (cutAddr L p k) (m - p) (k - p) po (lf.drop p):=
 ⟨h.po,h.cap,h.lf.sub h.room.1 p hp,by have:=h.room;omega,h.own,h.low⟩
def CuRaw (w:World) (F:Nat→Prop) (b:Nat) (po:List Pst) (lf:Nm) (la P N r:Int):Prop:=
 ∃ A n c L m k,Blk w b 145 #[.slice A n c,.slice L m k,.int .i64 la,.int .i64 P,.int .i64 N,.int .i64 r]∧CuIn w F b A n c L m k po lf
theorem CuRaw.all {w w':World} {F:Nat→Prop} {b:Nat} {po:List Pst} {lf:Nm} {la P N r:Int} (h:CuRaw w F b po lf la P N r) (hk:∀ i,F i→w'.heap[i]?=w.heap[i]?) (hs:w.heap.size≤w'.heap.size):CuRaw w' F b po lf la P N r:=by
 obtain ⟨A,n,c,L,m,k,h1,h2⟩:=h
 exact ⟨A,n,c,L,m,k,(hk b h2.own).trans h1,h2.all hk hs⟩
theorem CuRaw.lt {w:World} {F:Nat→Prop} {b:Nat} {po:List Pst} {lf:Nm} {la P N r:Int} (h:CuRaw w F b po lf la P N r):b < w.heap.size:=by
 obtain ⟨A,n,c,L,m,k,h1,h2⟩:=h
 exact h1.lt
theorem CuRaw.low {w:World} {F:Nat→Prop} {b:Nat} {po:List Pst} {lf:Nm} {la P N r:Int} (h:CuRaw w F b po lf la P N r):F b∧∀ i,F i→i < w.heap.size:=by
 obtain ⟨A,n,c,L,m,k,h1,h2⟩:=h
 exact ⟨h2.own,h2.low⟩
theorem CuRaw.below {w w':World} {F:Nat→Prop} {b:Nat} {po:List Pst} {lf:Nm} {la P N r:Int} (h:CuRaw w F b po lf la P N r) (hb:Below w.heap.size w w'):CuRaw w' F b po lf la P N r:=
 h.all (fun i hi=>hb.block i (h.low.2 i hi)) hb.size
theorem cu_set {b:Nat} {a w:World} (h:Kept (fun i=>i=b) a w) (i:Nat) (u:Value):Kept (fun i=>i=b) a (w.setCell ⟨b,i,none⟩ u):=h.setCell (p:=⟨b,i,none⟩) (.inl rfl) u
theorem cu_then {b:Nat} {x y z:World} (h:Kept (fun i=>i=b) x y) (k:Kept (fun i=>i=b) y z):Kept (fun i=>i=b) x z:=h.trans k (fun _ _ h=>h)
theorem cNum_any {w:World} {F:Nat→Prop} {b:Nat} {po:List Pst} {lf rest:Nm} {la P N r:Int} (h:CuRaw w F b po lf la P N r) {v:Nat} (hv:v < 2 ^ 63) (hl:lf=putL v++rest):
  Calls Tryz.prog 122 #[at0 b] w fun e w'=>e=.returned (.int .i64 v)∧CuRaw w' F b po rest la P N r∧Kept (fun i=>i=b) w w':=by
 obtain ⟨A,n,c,L,m,k,h1,h2⟩:=h
 have hln:lf.length=m:=by have:=h2.lf.1.2.1.len;simpa using this
 have hg:getL lf=(v,(putL v).length,0):=by rw [hl];exact getL_put (by omega) _
 have HG:=Lib.hid (lGet_any w L m k lf h2.lf.1)
 unfold gotV at HG
 rw [hg] at HG
 simp only at HG
 obtain ⟨j,hj⟩:∃ j,j=(putL v).length:=⟨_,rfl⟩
 rw [← hj] at HG
 have hjm:j≤m:=by rw [hj,← hln,hl,List.length_append];omega
 have hdr:lf.drop j=rest:=by rw [hj,hl,List.drop_left]
 have hk:=h2.room.1
 have HB:=Lib.hid h1
 have H2:=Lib.hid (h2.left hjm)
 rw [hdr] at H2
 have c1:=h1.cell 1
 have z1:=h1.frozen 1
 simp at c1
 have hsl:=fun w=>slice_from w L m k j hjm
 have hw:IntKind.i64.wrap (v:Int)=(v:Int):=IntWalk.i64_in _ (by omega)
 clear h1 h2 hg hj hl hln hdr
 unfold at0
 go_enter Tryz.func122,Tryz.ntmps122
 go_wp2_with fail
 refine HG.out.mono ?_
 rintro e w1 ⟨rfl,rfl⟩
 go_wp2
 go_ret
 have hk:Kept (fun i=>i=b) w1 (w1.setCell ⟨b,1,none⟩ (.slice (cutAddr L j k) (m - j) (k - j))):=cu_set (Kept.refl _ w1) 1 _
 exact ⟨rfl,⟨A,n,c,_,_,_,by simpa using HB.out.set_ 1 (.slice (cutAddr L j k) (m - j) (k - j)),H2.out.kept hk⟩,hk⟩
end Go.Proofs.YthcjikpabpgpfaaGreat
namespace Go.Proofs.YthcjikpabpgpfaaGreat
open Go.RowKit Go.Maps Go.WideMaps Go.Shelf
def CellRows (w0 w:World) (b:Nat) (acc:List Nm):Prop:=Below w0.heap.size w0 w∧w0.heap.size≤b∧∃ v,Blk w b 27 #[v]∧RowsG w (b+1) v acc
theorem fAll_1_any (w0 wp w:World) (b:Nat) (acc:List Nm) (x:Nm) (v:Value) (hI:CellRows w0 wp b acc) (hb:Below wp.heap.size wp w) (ho:w.ownsRow wp.heap.size 5 1 v x.length (x.map byteV)) (hx:x.length≤262144) (ha:acc.length≤1099511627776):
  Calls Tryz.prog 100 #[v,at0 b] w fun e w'=>e=.returned (.tuple #[])∧CellRows w0 w' b (acc++[x]):=by
 obtain ⟨i0,hi,hz0,hz1,hz2⟩:=info_parts rowInfo
 obtain ⟨hB0,hb0,u,hblk,svs,hO,h2⟩:=hI
 have hblt:=hblk.lt
 have hblk':=hblk.below hb hblt
 obtain ⟨Au,cu,hu⟩:=own_slice hO
 subst hu
 obtain ⟨Ax,cx,hv⟩:=own_slice ho
 subst hv
 have c0:=hblk'.cell 0
 simp at c0
 have hbw:w0.heap.size≤w.heap.size:=Nat.le_trans hB0.size hb.size
 have HW:=Lib.hid hbw
 have HB:=Lib.hid (below_then hB0 hb hB0.size)
 have HBLK:=Lib.hid hblk'
 have hsl:svs.length=acc.length:=by have:=hO.1;simpa using this
 have HSL:=Lib.hid hsl
 have HOL:=Lib.hid (ownsRow_block hO (w':=w) fun g hg=>hb.block g (hO.lt g hg).2)
 have HUL:Hid (∀ g,(Value.slice Au acc.length cu).ownBlock=some g→g < wp.heap.size):=Lib.hid fun g hg=>(hO.lt g hg).2
 have HX:=Lib.hid ho
 have hwp:wp.heap.size≤w.heap.size:=hb.size
 have hb1:b+1≤w.heap.size:=by have:=hblk'.lt;omega
 have HBLT:=Lib.hid hblt
 have H2:Hid (∀ (i:Nat) (sv:Value) (x:Nm),svs[i]?=some sv→acc[i]?=some x→∃ A c,sv=.slice A x.length c∧x.length≤c∧BytesIn w A x.length x∧∀ ad,A=some ad→0 < x.length→b+1≤ad.block∧(Value.slice Au acc.length cu).ownBlock≠some ad.block):=Lib.hid fun i sv y e1 e2=>by
  obtain ⟨A,c,h3,h4,h5,h6⟩:=h2 i sv y e1 e2
  exact ⟨A,c,h3,h4,h5.below hb,h6⟩
 have hone:∀ u∈[Value.slice Ax x.length cx],u.oneCell'=true:=by simp [Value.oneCell']
 have HONE:=Lib.hid hone
 clear hB0 hblk hO h2 hblk' hsl ho hb hbw hblt hone
 unfold at0
 go_enter Tryz.func100,Tryz.ntmps100
 go_wp2_with (at_builtin;refine wpList_append_src _ rfl (.tmp 3) (.tmp 5) 27 rfl (b+1) 24 i0 (.slice none 0 0) 24 Tryz.underlying27 hi hz0 hz1 hz2 rfl _ acc.length svs rfl (HOL.out.alloc _) _ 1 1 _ rfl (one_row_src w (.slice Ax x.length cx) rfl) HONE.out (by unfold maxLen;omega) (by omega) (by simp;omega) ?_;intro v3 w3 hown hgrow hloc;obtain ⟨A3,c3,hv3⟩:=own_slice hown;subst hv3;have HO3:=Lib.hid hown;have HG3:=Lib.hid hgrow;have HLOC:Hid ((Value.slice A3 (acc.length+1) c3).ownBlock=(Value.slice Au acc.length cu).ownBlock∨(Value.slice A3 (acc.length+1) c3).ownBlock=some (w.alloc (.cells #[.slice Ax x.length cx] 24)).heap.size):=Lib.hid hloc;have HBK3:=Lib.hid ((HBLK.out.alloc (.cells #[.slice Ax x.length cx] 24)).grown hgrow (fun e=>by have:=(HOL.out.lt b e.symm).1;omega));have k0:=HBK3.out.cell 0;simp at k0;have z3:=HBK3.out.frozen 0;clear hown hgrow hloc)
 go_end0
 refine ⟨rfl,?_,hb0,_,HBK3.out.set_ 0 _,?_⟩
 ·have h1:=(HB.out.alloc HB.out.size (.cells #[.slice Ax x.length cx] 24)).grown HG3.out (by have:=HB.out.size;simp;omega) (fun g hg=>by have:=(HOL.out.lt g hg).1;omega)
  exact ⟨h1.os,h1.tape,h1.output,by rw [size_setCell'];exact h1.size,fun k hk=>(Below.heap_setCell _ _ _ k (by simp;omega)).trans (h1.block k hk)⟩
 ·have hkeep:Below w.heap.size w (w.alloc (.cells #[.slice Ax x.length cx] 24)):=(Below.refl _ w).alloc (Nat.le_refl _) _
  have hnew:RowsG w3 (b+1) (.slice A3 (acc.length+1) c3) (acc++[x]):=by
   refine RowsG.push (w:=w.alloc (.cells #[.slice Ax x.length cx] 24)) (v:=.slice Au acc.length cu) (svs:=svs) (fun i sv y e1 e2=>?_) HSL.out (Holds1.below (Holds1.own HX.out (by unfold maxLen;omega)) hkeep) ?_ HO3.out HG3.out ?_
   ·obtain ⟨A4,c4,h3,h4,h5,h6⟩:=H2.out i sv y e1 e2
    exact ⟨A4,c4,h3,h4,h5.below hkeep,h6⟩
   ·intro A4 c4 ad e1 e2 _
    injection e1 with e1
    subst e1
    have h4:=(HX.out.lt ad.block (by rw [e2];rfl)).1
    refine ⟨by have:=HBLT.out;omega,fun e3=>?_⟩
    have h3:=HUL.out _ e3
    omega
   ·rcases HLOC.out with h | h
    ·exact .inl h
    ·exact .inr ⟨_,h,Nat.le_refl _⟩
  exact hnew.keep (fun i h0 _=>Below.heap_setCell _ _ _ i (by simp;omega)) (by rw [size_setCell'];exact Nat.le_refl _)
def FWalkOut (l:Nm) (I:World→List Nm→Prop) (e:Ending) (w':World):Prop:=
 ∃ (acc:List Nm) (k:Nat) (er:Int),e=.returned (.tuple #[.int .i64 k,.int .i64 er])∧I w' acc∧wholeF l=(acc,k)∧allF l=(if er≠0 then [] else acc,er)
theorem fWalk_any (f:Nat) (cap:Array Value) (eg:∀ args w,(callFunc f args).run Tryz.prog w=.ok (.enter f args) w) (w0 w:World) (A:Option Addr) (n c:Nat) (l:Nm) (hl:BytesIn w0 A n l) (hc:n≤c) (hn:n≤1099511627776)
  (I:World→List Nm→Prop) (hI0:I w []) (hIB:∀ w' acc,I w' acc→Below w0.heap.size w0 w')  (hIb:∀ w' w'' acc,I w' acc→Below w'.heap.size w' w''→I w'' acc)
  (hcl:∀ wp w' acc x v,I wp acc→Below wp.heap.size wp w'→w'.ownsRow wp.heap.size 5 1 v x.length (x.map byteV)→x.length≤262144→acc.length≤1099511627776→Calls Tryz.prog f (#[v]++cap) w' fun e w''=>e=.returned (.tuple #[])∧I w'' (acc++[x])):
  Calls Tryz.prog 99 #[.slice A n c,.func (.func f) #[] cap] w (FWalkOut l I):=by
 have hln:l.length=n:=by have:=hl.2.1.len;simpa using this
 obtain ⟨G,hG⟩:∃ G,G=allF l:=⟨_,rfl⟩
 obtain ⟨H,hH⟩:∃ H,H=wholeF l:=⟨_,rfl⟩
 have HOUT:Hid (∀ acc k er e w',e=.returned (.tuple #[.int .i64 (k:Nat),.int .i64 er])→I w' acc→H=(acc,k)→G=(if er≠0 then [] else acc,er)→FWalkOut l I e w'):=Lib.hid fun acc k er e w' h1 h2 h3 h4=>⟨acc,k,er,h1,h2,hH ▸ h3,hG ▸ h4⟩
 have HG0:Hid (allAux n l []=G):=Lib.hid (by rw [hG];unfold allF;rw [hln])
 have HH0:Hid (wholeAux n 0 l []=H):=Lib.hid (by rw [hH];unfold wholeF;rw [hln])
 have HL:=Lib.hid hl
 have HLN:=Lib.hid hln
 have HI0:=Lib.hid hI0
 have HIB:=Lib.hid hIB
 have HIb:=Lib.hid hIb
 have HCL:=Lib.hid hcl
 clear hl hln hG hH hI0 hIB hIb hcl
 go_enter Tryz.func99,Tryz.ntmps99
 go_wp2
 go_loopw [6] (fun s wr=>∃ (at_ q:Nat) (acc:List Nm),s=.int .i64 at_∧at_≤n∧n - at_≤q∧allAux q (l.drop at_) acc=G∧wholeAux q at_ (l.drop at_) acc=H∧acc.length≤at_∧I wr acc) (fun s _=>n - (intOf s).toNat)
 case atStart=>exact ⟨0,n,[],rfl,by omega,by omega,HG0.out,HH0.out,by simp,HI0.out⟩
 case round=>
  obtain ⟨at_,q,acc,rfl,hat,hmf,hg,hh,hacc,hi⟩:=hrel
  obtain ⟨r,hr0⟩:∃ r,r=l.drop at_:=⟨_,rfl⟩
  obtain ⟨m,hm0⟩:∃ m,m=n - at_:=⟨_,rfl⟩
  have hsub:=HL.out.sub hc at_ n hat (Nat.le_refl _)
  rw [show (l.take n).drop at_=r by rw [hr0,List.take_of_length_le (by rw [HLN.out];exact Nat.le_refl _)],← hm0] at hsub
  have HR:=Lib.hid hsub
  rw [← hr0] at hg hh
  rw [← hm0] at hmf
  have HGG:=Lib.hid hg
  have HHH:=Lib.hid hh
  have HII:=Lib.hid hi
  have HB:=Lib.hid (HIB.out _ _ hi)
  have hrl:r.length=m:=by have:=hsub.2.1.len;simpa using this
  have HRL:=Lib.hid hrl
  have HRD:=Lib.hid hr0
  have sA:∀ w,(Instr.slice 24 (.slice A n c) (some (.int .i64 at_)) none none).run Tryz.prog w=.ok (.slice (cutAddr A at_ c) m (c - at_)) w:=fun w=>by rw [hm0];exact slice_from w A n c at_ hat
  have hmc:m≤c - at_:=by omega
  have hmn:at_+m=n:=by omega
  clear hr0 hm0 hsub hg hh hi hrl HG0 HH0 HL HLN
  rcases Nat.eq_zero_or_pos m with h0 | hpos
  ·obtain rfl:at_=n:=by omega
   have hz:¬ ((at_:Int) < (at_:Int)):=by omega
   have hr:r=[]:=List.eq_nil_of_length_eq_zero (HRL.out.trans h0)
   have hfin:G=(if (0:Int)≠0 then [] else acc,0):=by rw [← HGG.out,hr,allAux_nil];simp
   have hfin2:H=(acc,at_):=by rw [← HHH.out,hr,wholeAux_nil]
   have HF:=Lib.hid hfin
   have HF2:=Lib.hid hfin2
   clear hfin hfin2 hr
   go_wp2
   go_ret2
   exact HOUT.out acc at_ 0 _ _ rfl HII.out HF2.out HF.out
  ·have hposz:(at_:Int) < (n:Int):=by omega
   obtain ⟨q',rfl⟩:∃ f',q=f'+1:=⟨q - 1,by omega⟩
   have hstep:=HGG.out
   have hstep2:=HHH.out
   simp only [allAux] at hstep
   simp only [wholeAux] at hstep2
   rw [if_neg (by rw [HRL.out];omega)] at hstep hstep2
   obtain ⟨x,k,e,hgf⟩:∃ x k e,getF r=(x,k,e):=⟨_,_,_,rfl⟩
   rw [hgf] at hstep hstep2
   simp only at hstep hstep2
   have HST:=Lib.hid hstep
   have HST2:=Lib.hid hstep2
   have HGF:=Lib.hid hgf
   clear hstep hstep2 hgf
   go_wp2_with fail
   refine (fGet_any wr (cutAddr A at_ c) m (c - at_) r (HR.out.below HB.out) hmc (by omega)).mono ?_
   rintro e2 w2 ⟨v2,rfl,ho2,hb2⟩
   rw [HGF.out] at ho2 ⊢
   simp only at ho2
   have HO2:=Lib.hid ho2
   have HB2:=Lib.hid hb2
   clear ho2 hb2
   by_cases he:e=0
   ·subst he
    have hst:=HST.out
    rw [if_neg (by simp)] at hst
    have HS:=Lib.hid hst
    have hst2:=HST2.out
    rw [if_neg (by simp)] at hst2
    have HS2:=Lib.hid hst2
    have hinv:=getF_inv HGF.out
    obtain ⟨q1,q2,q3,q4⟩:=hinv
    rw [HRL.out] at q2
    clear hst hst2 q3
    obtain ⟨A2,c2,hv2⟩:=own_slice HO2.out
    subst hv2
    have hat2:IntKind.i64.wrap ((at_:Int)+(k:Int))=((at_+k:Nat):Int):=by rw [IntWalk.i64_in _ (by omega)];simp
    obtain ⟨at2,hA2⟩:∃ a,a=at_+k:=⟨_,rfl⟩
    rw [← hA2] at hat2
    go_wp2_with fail
    refine (HCL.out wr w2 acc x _ HII.out HB2.out HO2.out q4 (by omega)).mono ?_
    rintro e3 w3 ⟨rfl,hI3⟩
    have HI3:=Lib.hid hI3
    clear hI3
    go_wp2
    go_roundw
    case rel=>
     have hd:l.drop at2=r.drop k:=by rw [HRD.out,List.drop_drop,← hA2]
     exact ⟨at2,q',acc++[x],by rw [hA2];go_num,by omega,by omega,by rw [hd];exact HS.out,by rw [hd,hA2];exact HS2.out,by rw [List.length_append,List.length_singleton];omega,HI3.out⟩
    case measure=>simp [intOf];omega
   ·have hst:=HST.out
    rw [if_pos he] at hst
    have HS:=Lib.hid hst
    have hst2:=HST2.out
    rw [if_pos he] at hst2
    have HS2:=Lib.hid hst2
    have d1:(e != 0)=true:=by simpa using he
    have HE:=Lib.hid he
    clear hst hst2 he
    go_wp2
    go_ret2
    exact HOUT.out acc at_ e _ _ rfl (HIb.out _ _ _ HII.out HB2.out) HS2.out.symm (by rw [if_pos HE.out];exact HS.out.symm)
theorem CellRows.start (w:World):CellRows w (w.alloc (.cells #[.slice none 0 0] 27)) w.heap.size []:=
 ⟨(Below.refl _ w).alloc (Nat.le_refl _) _,Nat.le_refl _,_,Blk.new _ _ _,RowsG.nil _ _⟩
theorem CellRows.below {w0 w w':World} {b:Nat} {acc:List Nm} (h:CellRows w0 w b acc) (hb:Below w.heap.size w w'):CellRows w0 w' b acc:=by
 obtain ⟨h1,h2,v,h3,h4⟩:=h
 exact ⟨below_then h1 hb h1.size,h2,v,h3.below hb h3.lt,h4.below hb⟩
theorem fAll_any (w:World) (A:Option Addr) (n c:Nat) (l:Nm) (hl:BytesIn w A n l) (hc:n≤c) (hn:n≤1099511627776):
  Calls Tryz.prog 49 #[.slice A n c] w (AllOut w (allF l)):=by
 have HL:=Lib.hid hl
 clear hl
 go_enter Tryz.func49,Tryz.ntmps49
 go_wp2_with fail
 refine (fWalk_any 100 #[at0 w.heap.size] (enters_of Tryz.func100 (by kernel_rfl) rfl) w _ A n c l HL.out hc hn (fun w' acc=>CellRows w w' w.heap.size acc) (CellRows.start w) (fun _ _ h=>h.1) (fun _ _ _ h k=>h.below k) (fun wp w' acc x v h1 h2 h3 h4 h5=>fAll_1_any w wp w' _ acc x v h1 h2 h3 h4 h5)).mono ?_
 rintro e w2 ⟨acc,k,er,rfl,hI,_,hA⟩
 obtain ⟨hB,_,v,hblk,hrow⟩:=hI
 have c0:=hblk.cell 0
 simp at c0
 have HB:=Lib.hid hB
 have HR:=Lib.hid (hrow.rows (b:=w.heap.size) (by omega))
 obtain ⟨_,hO,_⟩:=hrow
 obtain ⟨Av,cv,hv⟩:=own_slice hO
 subst hv
 clear hblk hB hO
 by_cases he:er=0
 ·subst he
  rw [if_neg (by simp)] at hA
  have HA:=Lib.hid hA
  clear hA
  go_wp2
  go_ret2
  exact alok HA.out HR.out HB.out
 ·have d1:(er != 0)=true:=by simpa using he
  rw [if_pos he] at hA
  have HA:=Lib.hid hA
  clear he hA
  go_wp2
  go_ret2
  exact alok HA.out (RowsAt.nil _ _) HB.out
end Go.Proofs.YthcjikpabpgpfaaGreat
