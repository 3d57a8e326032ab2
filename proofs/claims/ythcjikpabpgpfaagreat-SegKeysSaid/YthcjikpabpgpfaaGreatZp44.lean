import Derived.Test.YthcjikpabpgpfaaGreatZp0
import Derived.Test.YthcjikpabpgpfaaGreatZp43
import Derived.Test.YthcjikpabpgpfaaGreatZp29
import Derived.Test.YthcjikpabpgpfaaGreatZp12
import Derived.Test.YthcjikpabpgpfaaGreatZp9
import Derived.Test.YthcjikpabpgpfaaGreatZp28
import Derived.Deep.RegionHeld3
set_option linter.unusedSimpArgs false
set_option maxHeartbeats 16000000
set_option maxRecDepth 100000
namespace Go.Proofs.YthcjikpabpgpfaaGreat
open Go.RowKit Go.Maps Go.WideMaps
theorem cloneMg_any (w:World) (B:Option Addr) (m c:Nat) (M:List Mg) (hM:MgSee w B m M) (hm:m≤1048576):
  Calls Tryz.prog 39 #[.slice B m c] w fun e w'=>∃ v,e=.returned v∧w'.ownsRow w.heap.size 88 3 v m (M.flatMap mgCells)∧Below w.heap.size w w':=by
 obtain ⟨i0,hi,hz0,hz1,hz2⟩:=info_parts mergeInfo
 have q22:∀ (w:World) (a:Option Addr) (n c n' c':Nat),(binOp .eql 28 (.slice a n c) (.slice none n' c')).run Tryz.prog w=.ok (.bool a.isNone) w:=fun w a n c n' c'=>Lib.run_eql_slice_nil w _ _ a n c n' c' Tryz.underlying28
 have hl:=hM.len
 cases B with
 | none=>
  have h0:M=[]:=by
   cases M with
   | nil=>rfl
   | cons x r=>obtain ⟨ad,e,_⟩:=hM.at_ 0 x rfl;cases e
  subst h0
  obtain rfl:m=0:=by simpa using hl.symm
  clear hM hl
  go_enter Tryz.func39,Tryz.ntmps39
  go_wp2
  go_ret
  exact ⟨_,rfl,⟨rfl,.inl ⟨rfl,rfl⟩⟩,Below.refl _ _⟩
 | some ad=>
  have HS:=Lib.hid ((hM.below ((Below.refl _ w).alloc (Nat.le_refl _) (.cells #[] 88))).src)
  have hlen:=mgCells_len M
  have HLEN:=Lib.hid hlen
  have HL:=Lib.hid hl
  have HONE:=Lib.hid (mgCells_one M)
  clear hM hlen hl
  go_enter Tryz.func39,Tryz.ntmps39
  go_wp2_with (at_builtin;refine wpList_append_own_at _ rfl (.tmp 5) (.tmp 6) 28 rfl w.heap.size 88 i0 _ 3 24 Tryz.underlying28 hi hz0 hz1 hz2 rfl (by decide) _ 0 [] rfl (World.ownsRow_made w #[] 0 (Nat.le_refl _) (Nat.zero_le _) rfl) ad m c (M.flatMap mgCells) rfl (by rw [HLEN.out,HL.out]) (HS.out.cells ad rfl) HONE.out (by unfold maxLen;omega) (by omega) (by simp) ?_;intro v w2 hown hgrow hnil hloc;clear hnil;rw [Nat.zero_add,List.nil_append] at hown;have HO:=Lib.hid hown;have HB:Hid (Below w.heap.size w w2):=Lib.hid ((((Below.refl _ w).alloc (Nat.le_refl _) (.cells #[] 88)).grown hgrow (by simp) (fun k e=>by cases e;exact Nat.le_refl _)));clear hown hgrow hloc)
  go_ret
  exact ⟨_,rfl,HO.out,HB.out⟩
structure CB (w0 wr:World) (V:Voc) (b bp t j k:Nat) (tv mv:Value) (D:DataW Unit) (cs:Array Value):Prop where
 below:Below w0.heap.size w0 wr
 new:w0.heap.size≤b
 blk:Blk wr b 92 cs
 size:cs.size=259
 c0:cs[0]?=some tv
 c1:cs[1]?=some mv
 cB:∀ c,c < 256→cs[2+c]?=some (.int .i64 ((if c < j then c else 0:Nat):Int))
 cM:cs[258]?=some (.map (some bp))
 rows:RowsG wr (b+1) tv (V.tok.take t)
 mrow:wr.ownsRow w0.heap.size 88 3 mv V.mer.length (V.mer.flatMap mgCells)
 map:ranksAt wr bp k D
 isR:RankMap D (V.mer.take k)
 bpn:w0.heap.size≤bp∧bp < b
section
variable {w0 wr w':World} {V:Voc} {b bp t j k:Nat} {tv mv v':Value} {D:DataW Unit} {cs:Array Value}
theorem CB.then (h:CB w0 wr V b bp t j k tv mv D cs) (hb:Below wr.heap.size wr w'):CB w0 w' V b bp t j k tv mv D cs where
 below:=below_then h.below hb h.below.size
 new:=h.new
 blk:=h.blk.below hb h.blk.lt
 size:=h.size
 c0:=h.c0
 c1:=h.c1
 cB:=h.cB
 cM:=h.cM
 rows:=h.rows.below hb
 mrow:=ownsRow_block h.mrow fun g hg=>hb.block g (h.mrow.lt g hg).2
 map:=ownsMap_block h.map (hb.block _ (Nat.lt_trans h.bpn.2 h.blk.lt))
 isR:=h.isR
 bpn:=h.bpn
theorem RowsG.lt {w:World} {base:Nat} {v:Value} {L:List Nm} (h:RowsG w base v L):∀ g,v.ownBlock=some g→base≤g∧g < w.heap.size:=by
 obtain ⟨svs,h1,_⟩:=h
 exact h1.lt
theorem CB.tvb (h:CB w0 wr V b bp t j k tv mv D cs):tv.ownBlock≠some b:=fun e=>by have:=(h.rows.lt b e).1;omega
theorem CB.setTok {w5:World} {x:Nm} (h:CB w0 wr V b bp t j k tv mv D cs) (hg:wr.grownBy w5 tv.ownBlock) (htk:V.tok.take (t+1)=V.tok.take t++[x]) (hr:RowsG w5 (b+1) v' (V.tok.take t++[x])):
  CB w0 (w5.setCell ⟨b,0,none⟩ v') V b bp (t+1) j k v' mv D (cs.setIfInBounds 0 v'):=by
 have hblk2:Blk w5 b 92 cs:=h.blk.grown hg (fun e=>h.tvb e.symm)
 have hs:=hg.size
 exact {
  below:=(h.below.grown hg h.below.size (fun g e=>by have:=(h.rows.lt g e).1;have:=h.new;omega)).setCell h.new _
  new:=h.new
  blk:=hblk2.set_ 0 v'
  size:=by simpa using h.size
  c0:=by rw [Array.getElem?_setIfInBounds];simp [h.size]
  c1:=by rw [Array.getElem?_setIfInBounds];simpa using h.c1
  cB:=fun c hc=>by rw [Array.getElem?_setIfInBounds,if_neg (by omega)];exact h.cB c hc
  cM:=by rw [Array.getElem?_setIfInBounds];simpa using h.cM
  rows:=by
   rw [htk]
   exact hr.keep (fun i h1 _=>heap_setCell_other _ _ _ (by show i≠b;omega)) (by rw [size_setCell'];exact Nat.le_refl _)
  mrow:=ownsRow_block h.mrow fun g e=>by
   rw [heap_setCell_other _ _ _ (fun e2=>own_blk_ne h.mrow h.blk (by decide) (by rw [e,e2]))]
   obtain ⟨svs,h1,_⟩:=h.rows
   exact hg.block g (h.mrow.lt g e).2 (fun e2=>own_row_ne h.mrow h1 (by decide) g e e2.symm)
  map:=ownsMap_block h.map (by
   rw [heap_setCell_other _ _ _ (by show bp≠b;have:=h.bpn.2;omega)]
   exact hg.block bp (Nat.lt_trans h.bpn.2 h.blk.lt) (fun e=>by have:=(h.rows.lt bp e.symm).1;have:=h.bpn.2;omega))
  isR:=h.isR
  bpn:=h.bpn }
theorem CB.setSingle (h:CB w0 wr V b bp t j k tv mv D cs) (hj:j < 256):CB w0 (wr.setCell ⟨b,2+j,none⟩ (.int .i64 (j:Nat))) V b bp t (j+1) k tv mv D (cs.setIfInBounds (2+j) (.int .i64 (j:Nat))):={
  below:=h.below.setCell h.new _
  new:=h.new
  blk:=h.blk.set_ _ _
  size:=by simpa using h.size
  c0:=by rw [Array.getElem?_setIfInBounds,if_neg (by omega)];exact h.c0
  c1:=by rw [Array.getElem?_setIfInBounds,if_neg (by omega)];exact h.c1
  cB:=fun c hc=>by
   rw [Array.getElem?_setIfInBounds]
   by_cases e:c=j
   ·subst e
    rw [if_pos rfl,if_pos (by rw [h.size];omega),if_pos (by omega)]
   ·rw [if_neg (by omega),h.cB c hc]
    congr 2
    by_cases h1:c < j
    ·rw [if_pos h1,if_pos (by omega)]
    ·rw [if_neg h1,if_neg (by omega)]
  cM:=by rw [Array.getElem?_setIfInBounds,if_neg (by omega)];exact h.cM
  rows:=h.rows.keep (fun i h1 _=>heap_setCell_other _ _ _ (by show i≠b;omega)) (by rw [size_setCell'];exact Nat.le_refl _)
  mrow:=ownsRow_block h.mrow fun g e=>heap_setCell_other _ _ _ (fun e2=>own_blk_ne h.mrow h.blk (by decide) (by rw [e,e2]))
  map:=ownsMap_block h.map (heap_setCell_other _ _ _ (by show bp≠b;have:=h.bpn.2;omega))
  isR:=h.isR
  bpn:=h.bpn }
theorem CB.skip (h:CB w0 wr V b bp t j k tv mv D cs) (hj:256≤j):CB w0 wr V b bp t (j+1) k tv mv D cs:=
 { h with cB:=fun c hc=>by rw [h.cB c hc,if_pos (by omega),if_pos (by omega)] }
theorem CB.setMap {D':DataW Unit} (h:CB w0 wr V b bp t j k tv mv D cs) (hm:ranksAt w' bp (k+1) D') (hg:wr.grownBy w' (some bp)) (hr:RankMap D' (V.mer.take (k+1))):CB w0 w' V b bp t j (k+1) tv mv D' cs:={
  below:=h.below.grown hg h.below.size (fun g e=>by cases e;exact h.bpn.1)
  new:=h.new
  blk:=h.blk.grown hg (fun e=>by have:=h.bpn.2;cases e;omega)
  size:=h.size
  c0:=h.c0
  c1:=h.c1
  cB:=h.cB
  cM:=h.cM
  rows:=h.rows.keep (fun i h1 h2=>hg.block i h2 (fun e=>by have:=h.bpn.2;cases e;omega)) hg.size
  mrow:=ownsRow_block h.mrow fun g e=>hg.block g (h.mrow.lt g e).2 (fun e2=>own_map_ne h.mrow h.map (by rw [e];exact e2))
  map:=hm
  isR:=hr
  bpn:=h.bpn }
theorem CB.coder (h:CB w0 wr V b bp V.tok.length j V.mer.length tv mv D cs) (hO:VOk V) (hj:256≤j) (hf:∀ m∈V.mer,mgFits m):Coder wr b V:=by
 have hr:=h.rows
 rw [List.take_length] at hr
 obtain ⟨svs,h1,h2⟩:=hr
 obtain ⟨A,ca,rfl⟩:=own_slice h1
 obtain ⟨B,cb,rfl⟩:=own_slice h.mrow
 obtain ⟨s1,_,_⟩:=(RowsG.rows (b:=0) ⟨svs,h1,h2⟩ (Nat.zero_le _)).see (by have:=hO.tl;unfold maxLen;omega)
 obtain ⟨s2,_⟩:=MgSee.own h.mrow rfl (by have:=hO.ml;unfold maxLen;omega) hf
 have hisR:=h.isR
 rw [List.take_length] at hisR
 exact ⟨A,B,ca,cb,bp,D,cs,{
  blk:=h.blk
  c0:=h.c0
  c1:=h.c1
  cB:=fun c hc=>by rw [h.cB c hc,if_pos (by omega)]
  cM:=h.cM
  tok:=s1
  mer:=s2
  map:=h.map
  isR:=hisR
  mlt:=Nat.lt_trans h.bpn.2 h.blk.lt }⟩
end
theorem zeroCoder:Tryz.zeroCells92.size=259∧Tryz.zeroCells92[0]?=some (.slice none 0 0):=⟨by kernel_rfl,by kernel_rfl⟩
theorem zeroSingles0:(List.range 256).map (fun c=>Tryz.zeroCells92[2+c]?)=List.replicate 256 (some (.int .i64 0)):=by kernel_rfl
theorem zeroSingles {c:Nat} (hc:c < 256):Tryz.zeroCells92[2+c]?=some (.int .i64 0):=by
 have h:((List.range 256).map (fun c=>Tryz.zeroCells92[2+c]?))[c]?=(List.replicate 256 (some (Value.int .i64 0)))[c]?:=by rw [zeroSingles0]
 rw [List.getElem?_map,List.getElem?_range hc,List.getElem?_replicate,if_pos hc] at h
 exact Option.some.inj h
theorem new_any (w:World) (A B:Option Addr) (n m ca cb:Nat) (V:Voc) (hV:VocSee w A B n m ca cb V) (hO:VOk V):
  Calls Tryz.prog 13 #[vocV A B n m ca cb] w fun e w'=>∃ b,e=.returned (at0 b)∧Below w.heap.size w w'∧Coder w' b V:=by
 have b1:Below w.heap.size w (w.alloc (.cells #[.slice A n ca,.slice B m cb] 30)):=(Below.refl _ w).alloc (Nat.le_refl _) _
 have hck:=vCheck_any _ A B n m ca cb V (hV.below b1)
 rw [hO.check] at hck
 have HCK:=Lib.hid hck
 have HB1:=Lib.hid b1
 have HV:=Lib.hid hV
 have HO:=Lib.hid hO
 clear hV hck b1 hO
 unfold vocV at HCK ⊢
 go_enter Tryz.func13,Tryz.ntmps13
 go_wp2_with fail
 refine HCK.out.mono ?_
 rintro e w2 ⟨rfl,hb2⟩
 have HB2:=Lib.hid (below_then HB1.out hb2 HB1.out.size)
 have hbox:Blk w2 w.heap.size 30 #[.slice A n ca,.slice B m cb]:=(Blk.new w _ _).below hb2 (by simp)
 have HBOX:=Lib.hid hbox
 obtain ⟨k0,k1⟩:=two_cells hbox
 have HV2:=Lib.hid (HV.out.below HB2.out)
 clear hb2 hbox
 go_wp2_with fail
 refine (cloneMg_any w2 B m cb V.mer HV2.out.mer (by have:=HO.out.ml;have:=HV2.out.mer.len;omega)).mono ?_
 rintro e w3 ⟨v3,rfl,ho3,hb3⟩
 obtain ⟨A3,c3,rfl⟩:=own_slice ho3
 have HO3:=Lib.hid ho3
 have HB3:=Lib.hid (below_then HB2.out hb3 HB2.out.size)
 have HB23:=Lib.hid hb3
 have HV3:=Lib.hid (HV2.out.below hb3)
 have HBOX3:=Lib.hid (HBOX.out.below hb3 HBOX.out.lt)
 obtain ⟨k0',k1'⟩:=two_cells HBOX3.out
 obtain ⟨CS,hCS⟩:∃ CS,CS=(Tryz.zeroCells92.setIfInBounds 1 (Value.slice A3 m c3)).setIfInBounds 258 (Value.map (some w3.heap.size)):=⟨_,rfl⟩
 obtain ⟨W4,hW4⟩:∃ W4,W4=(w3.alloc (.map #[] 0)).alloc (.cells CS 92):=⟨_,rfl⟩
 have hb4:Below w3.heap.size w3 W4:=by rw [hW4];exact ((Below.refl _ w3).alloc (Nat.le_refl _) _).alloc (by simp) _
 obtain ⟨b,hbn⟩:∃ b,b=w3.heap.size+1:=⟨_,rfl⟩
 have hml:V.mer.length=m:=HV3.out.mer.len
 have htl:V.tok.length=n:=HV3.out.tok.len
 have hCB:CB w2 W4 V b w3.heap.size 0 0 0 (.slice none 0 0) (.slice A3 m c3) (.map []) CS:={
  below:=below_then HB23.out hb4 HB23.out.size
  new:=by have:=HB23.out.size;omega
  blk:=by
   rw [hW4,hbn]
   have:=Blk.new (w3.alloc (.map #[] 0)) 92 CS
   simpa using this
  size:=by rw [hCS,Array.size_setIfInBounds,Array.size_setIfInBounds];exact zeroCoder.1
  c0:=by rw [hCS,Array.getElem?_setIfInBounds,if_neg (by omega),Array.getElem?_setIfInBounds,if_neg (by omega)];exact zeroCoder.2
  c1:=by rw [hCS,Array.getElem?_setIfInBounds,if_neg (by omega),Array.getElem?_setIfInBounds,if_pos rfl,if_pos (by rw [zeroCoder.1];omega)]
  cB:=fun c hc=>by rw [hCS,Array.getElem?_setIfInBounds,if_neg (by omega),Array.getElem?_setIfInBounds,if_neg (by omega),zeroSingles hc];rfl
  cM:=by rw [hCS,Array.getElem?_setIfInBounds,if_pos rfl,if_pos (by simp [zeroCoder.1])]
  rows:=RowsG.nil _ _
  mrow:=by
   have h1:W4.ownsRow w2.heap.size 88 3 (.slice A3 m c3) m (V.mer.flatMap mgCells):=by rw [hW4];exact (HO3.out.alloc _).alloc _
   rw [hml]
   exact h1
  map:=by
   rw [hW4]
   exact (World.ownsMap_made w3 _ _ _).alloc _
  isR:=RankMap.nil
  bpn:=⟨HB23.out.size,by omega⟩ }
 have hmm:=@run_makeMap Tryz.prog
 have k2:W4.cell? ⟨w.heap.size,0,none⟩=some (.slice A n ca):=(two_cells (HBOX3.out.below hb4 HBOX3.out.lt)).1
 rw [hW4,hCS] at k2
 have HCB:=Lib.hid hCB
 have HBN:=Lib.hid hbn
 have HW4:=Lib.hid hW4
 have HCS:=Lib.hid hCS
 have HML:=Lib.hid hml
 have HTL0:=Lib.hid htl
 have HBOX4:=Lib.hid (HBOX3.out.below hb4 HBOX3.out.lt)
 have HB34:=Lib.hid hb4
 have hn5:n≤512:=by have:=HO.out.tl;omega
 have hm5:m≤512:=by have:=HO.out.ml;omega
 obtain ⟨i0,hi,hz0,hz1,hz2⟩:=info_parts rowInfo
 clear ho3 hb3 k0 k1 k0' k1' hCB hbn hW4 hCS hml htl hb4
 go_wp2_with fail
 rw [← HCS.out,← HW4.out,← HBN.out]
 clear k2 hmm
 go_loopw [20] (fun i wr=>∃ (j:Nat) (tv:Value) (cs:Array Value),j≤n∧i=.int .i64 (j:Nat)∧CB w2 wr V b w3.heap.size j j 0 tv (.slice A3 m c3) (.map []) cs) (fun i _=>n - (intOf i).toNat)
 case atStart=>exact ⟨0,_,_,Nat.zero_le _,rfl,HCB.out⟩
 case round=>
  obtain ⟨j,tv,cs,hj,rfl,hR⟩:=hrel
  rcases Nat.lt_or_ge j n with hlt | hge
  ·have HR:=Lib.hid hR
   have hx:V.tok[j]?=some (V.tok[j]'(by rw [HTL0.out];exact hlt)):=List.getElem?_eq_getElem _
   obtain ⟨x,hxe⟩:∃ x,x=V.tok[j]'(by rw [HTL0.out];exact hlt):=⟨_,rfl⟩
   rw [← hxe] at hx
   obtain ⟨adt,Bt,ct,e1,tc0,hct,hbt0⟩:=HV2.out.tok.at_ j x hx
   subst e1
   have tc:=below_cells hR.below tc0
   have hbt:=hbt0.below hR.below
   have HBT0:=Lib.hid hbt0
   have hx16:=HO.out.short x (List.mem_of_getElem? hx)
   have htk:V.tok.take (j+1)=V.tok.take j++[x]:=by rw [List.take_add_one,hx];rfl
   have htl:(V.tok.take j).length=j:=by rw [List.length_take,HTL0.out];omega
   have HXL:=Lib.hid hx16.2
   have HTK:=Lib.hid htk
   have HTL:=Lib.hid htl
   have HTV:=Lib.hid (fun g e=>(hR.rows.lt g e).2:∀ g,tv.ownBlock=some g→g < wr.heap.size)
   have HTB:=Lib.hid hR.tvb
   have HBT:=Lib.hid hbt
   have HX:=Lib.hid hx
   have hjn:(j:Int) < (n:Int):=by omega
   have hjz:(0:Int)≤(j:Int):=by omega
   clear hR hx hxe hx16 htk htl hbt tc0 hbt0
   go_wp2_with fail
   clear tc
   refine wp_region_held_drew (S:=fun _=>True) (by kernel_rfl) trivial (fun hHeld=>?_)
   obtain ⟨u0,hu0⟩:∃ z,z=wr.drew:=⟨_,rfl⟩
   rw [← hu0]
   have hb0:Below wr.heap.size wr u0:=by rw [hu0];exact (Below.refl _ wr).drew
   have HR0:=Lib.hid (HR.out.then hb0)
   have HX0:=Lib.hid (HBT.out.below hb0)
   have HSZu0:=Lib.hid hb0.size
   clear hu0 hb0
   refine wpAnyH_take (i:=0) (oi:=?oit10) (v:=?vt10) ?hit10 (by kernel_rfl) (by kernel_rfl) (by kernel_rfl) ?hQt10 (Or.inl ⟨?hwt10,?hyt10⟩) (by assumption) ?restt10
   case hit10=>(first | (simp only [lz0,lz1,lz2];rfl) | rfl)
   case hQt10=>exact fun _ _ _ h=>h
   case hwt10=>rfl
   case hyt10=>((intro w hSw;go_simp);first | done | with_reducible rfl)
   try simp only [Act.put,lz3,lz4,lz5]
   refine wpAnyH_take (i:=1) (oi:=?oit21) (v:=?vt21) ?hit21 (by kernel_rfl) (by kernel_rfl) (by kernel_rfl) ?hQt21 (Or.inl ⟨?hwt21,?hyt21⟩) (by assumption) ?restt21
   case hit21=>(first | (simp only [lz0,lz1,lz2];rfl) | rfl)
   case hQt21=>exact fun _ _ _ h=>h
   case hwt21=>rfl
   case hyt21=>((intro w hSw;go_simp);first | done | with_reducible rfl)
   try simp only [Act.put,lz3,lz4,lz5]
   refine wpAnyH_take (i:=5) (oi:=?oit35) (v:=?vt35) ?hit35 (by kernel_rfl) (by kernel_rfl) (by kernel_rfl) ?hQt35 (Or.inl ⟨?hwt35,?hyt35⟩) (by assumption) ?restt35
   case hit35=>(first | (simp only [lz0,lz1,lz2];rfl) | rfl)
   case hQt35=>exact fun _ _ _ h=>h
   case hwt35=>rfl
   case hyt35=>((intro w hSw;go_simp);first | done | with_reducible rfl)
   try simp only [Act.put,lz3,lz4,lz5]
   refine wpAnyH_take (i:=2) (oi:=?oit42) (v:=?vt42) ?hit42 (by kernel_rfl) (by kernel_rfl) (by kernel_rfl) ?hQt42 (Or.inl ⟨?hwt42,?hyt42⟩) (by assumption) ?restt42
   case hit42=>(first | (simp only [lz0,lz1,lz2];rfl) | rfl)
   case hQt42=>exact fun _ _ _ h=>h
   case hwt42=>rfl
   case hyt42=>((intro w hSw;go_simp);first | done | with_reducible rfl)
   try simp only [Act.put,lz3,lz4,lz5]
   refine wpAnyH_take (i:=3) (oi:=?oit53) (v:=?vt53) ?hit53 (by kernel_rfl) (by kernel_rfl) (by kernel_rfl) ?hQt53 (Or.inl ⟨?hwt53,?hyt53⟩) (by assumption) ?restt53
   case hit53=>(first | (simp only [lz0,lz1,lz2];rfl) | rfl)
   case hQt53=>exact fun _ _ _ h=>h
   case hwt53=>rfl
   case hyt53=>((intro w hSw;go_simp);first | done | with_reducible rfl)
   try simp only [Act.put,lz3,lz4,lz5]
   refine wpAnyH_ready (rs:=[4,6]) (by kernel_rfl) (by simp) ?_
   refine AllReadyH.cons (o:=?ot6) ?ht6 ?st6 (AllReadyH.cons (o:=?ot7) ?ht7 ?st7 AllReadyH.nil)
   case ht6=>(simp only [lz0,lz1,lz2];rfl)
   case ht7=>(simp only [lz0,lz1,lz2];rfl)
   case st6=>
    intro K hK
    have yq1:u0.cell? ⟨b,0,none⟩=some tv:=by rw [HR0.out.blk.cell];exact HR0.out.c0
    go_simp
    clear yq1
    refine hK.out _ _ trivial (fun ht8=>?_)
    clear hK K
    try simp only [Act.put,lz3,lz4,lz5]
    refine wpAnyH_ready (rs:=[6]) (by kernel_rfl) (by simp) ?_
    refine AllReadyH.cons (o:=?ot9) ?ht9 ?st9 AllReadyH.nil
    case ht9=>(simp only [lz0,lz1,lz2];rfl)
    case st9=>
     intro K hK
     go_simp
     refine (clone_any u0 Bt x.length ct x HX0.out (by have:=HXL.out;omega)).mono ?_
     rintro eq6 uq2 ⟨v,rfl,oq7,hq3⟩
     obtain ⟨Aq8,cq9,rfl⟩:=own_slice oq7
     have Hq10:Hid (Holds1 uq2 (.slice Aq8 x.length cq9) x):=Lib.hid (Holds1.own oq7 (by have:=HXL.out;unfold maxLen;omega))
     have Hq10b:Hid (∀ ad,Aq8=some ad→0 < x.length→u0.heap.size≤ad.block∧ad.block < uq2.heap.size):=Lib.hid (fun ad e _=>oq7.lt ad.block (by rw [e];rfl))
     have Rq4:=Lib.hid (HR0.out.then hq3)
     clear oq7 hq3
     go_wp2_with fail
     refine hK.out _ _ trivial (fun ht10=>?_)
     clear hK K
     try simp only [Act.put,lz3,lz4,lz5]
     refine wpAnyH_ready (rs:=[7]) (by kernel_rfl) (by simp) ?_
     refine AllReadyH.cons (o:=?ot11) ?ht11 ?st11 AllReadyH.nil
     case ht11=>(simp only [lz0,lz1,lz2];rfl)
     case st11=>
      intro K hK
      go_simp
      obtain ⟨uq11,huq12⟩:∃ z,z=uq2.alloc (.cells #[.slice Aq8 x.length cq9] 24):=⟨_,rfl⟩
      have Nq15:Hid (Blk uq11 uq2.heap.size 24 #[.slice Aq8 x.length cq9]):=Lib.hid (by rw [huq12];exact Blk.new _ _ _)
      rw [← huq12]
      have hbq13:Below uq2.heap.size uq2 uq11:=by rw [huq12];exact (Below.refl _ uq2).alloc (Nat.le_refl _) _
      have Hq16:=Lib.hid (Hq10.out.below hbq13)
      have Hq16b:Hid (∀ ad,Aq8=some ad→0 < x.length→b+1≤ad.block∧tv.ownBlock≠some ad.block):=Lib.hid (fun ad e h0=>by
       have h1:=Hq10b.out ad e h0
       have h2:=HR.out.blk.lt
       have h3:=HSZu0.out
       exact ⟨by omega,fun e2=>by have:=HTV.out _ e2;omega⟩)
      have Rq14:=Lib.hid (Rq4.out.then hbq13)
      clear huq12 hbq13
      refine hK.out _ _ trivial (fun ht12=>?_)
      clear hK K
      try simp only [Act.put,lz3,lz4,lz5]
      refine wpAnyH_ready (rs:=[8]) (by kernel_rfl) (by simp) ?_
      refine AllReadyH.cons (o:=?ot13) ?ht13 ?st13 AllReadyH.nil
      case ht13=>(simp only [lz0,lz1,lz2];rfl)
      case st13=>
       intro K hK
       obtain ⟨svsq23,hoq24,hsq25⟩:=Rq14.out.rows
       rw [HTL.out] at hoq24
       refine step_append_srcN _ rfl (.tmp 29) (.tmp 32) 27 rfl (b+1) 24 i0 (.slice none 0 0) 1 24 Tryz.underlying27 hi hz0 hz1 hz2 rfl (by omega) tv j svsq23 rfl hoq24 (some ⟨uq2.heap.size,0,none⟩) 1 1 [.slice Aq8 x.length cq9] rfl ⟨rfl,fun ad e j u hu=>by cases e;rw [addr_add,Nq15.out.cell];simpa using hu,fun e=>by cases e⟩ (by simp [Value.oneCell']) (by unfold maxLen;omega) (by omega) Rq14.out.blk.lt ?_
       intro v' uq17 hwq18 hgq19 hlq20
       have Gq26:=Lib.hid (RowsG.push (w:=uq11) (v:=tv) (L:=V.tok.take j) (x:=x) hsq25 (by have:=hoq24.1;rw [HTL.out];simpa using this) Hq16.out (fun A c ad e1 e2 e3=>by cases e1;exact Hq16b.out ad e2 e3) (by rw [HTL.out];exact hwq18) hgq19 (hlq20.imp id fun h=>⟨_,h,Nat.le_refl _⟩))
       obtain ⟨Aq21,cq22,rfl⟩:=own_slice hwq18
       have Gq26n:Hid (b≠(Value.slice Aq21 (j+1) cq22).ownBlock.getD (b+1)):=Lib.hid (by
        cases hq:(Value.slice Aq21 (j+1) cq22).ownBlock with
        | none=>simp
        | some g=>have:=(hwq18.lt g hq).1;simp;omega)
       have Gq26g:=Lib.hid hgq19
       clear hwq18 hlq20 hoq24 hsq25
       refine hK.out _ _ trivial (fun ht14=>?_)
       clear hK K
       try simp only [Act.put,lz3,lz4,lz5]
       refine wpAnyH_take (i:=9) (oi:=?oit159) (v:=?vt159) ?hit159 (by kernel_rfl) (by kernel_rfl) (by kernel_rfl) ?hQt159 (Or.inl ⟨?hwt159,?hyt159⟩) (by assumption) ?restt159
       case hit159=>(first | (simp only [lz0,lz1,lz2];rfl) | rfl)
       case hQt159=>exact fun _ _ _ h=>h
       case hwt159=>rfl
       case hyt159=>((intro w hSw;go_simp);first | done | with_reducible rfl)
       try simp only [Act.put,lz3,lz4,lz5]
       refine wpAnyH_take (i:=10) (oi:=?oit1610) (v:=?vt1610) ?hit1610 (by kernel_rfl) (by kernel_rfl) (by kernel_rfl) ?hQt1610 (Or.inl ⟨?hwt1610,?hyt1610⟩) (by assumption) ?restt1610
       case hit1610=>(first | (simp only [lz0,lz1,lz2];rfl) | rfl)
       case hQt1610=>exact fun _ _ _ h=>h
       case hwt1610=>rfl
       case hyt1610=>((intro w hSw;go_simp);first | done | with_reducible rfl)
       try simp only [Act.put,lz3,lz4,lz5]
       refine wpAnyH_ready (rs:=[11]) (by kernel_rfl) (by simp) ?_
       refine AllReadyH.cons (o:=?ot17) ?ht17 ?st17 AllReadyH.nil
       case ht17=>(simp only [lz0,lz1,lz2];rfl)
       case st17=>
        intro K hK
        have Bq30:=Rq14.out.blk.grown Gq26g.out (fun e=>HTB.out e.symm)
        have yq27:uq17.cell? ⟨b,0,none⟩=some tv:=by rw [Bq30.cell];exact Rq14.out.c0
        have zq28:=Bq30.frozen 0
        go_simp
        clear yq27 zq28 Bq30
        have Fq29:=Lib.hid (Rq14.out.setTok (x:=x) Gq26g.out HTK.out (v':=(.slice Aq21 (j+1) cq22)) Gq26.out)
        refine hK.out _ _ trivial (fun ht18=>?_)
        clear hK K
        try simp only [Act.put,lz3,lz4,lz5]
        refine wpAnyH_done (by kernel_rfl) ?_ _
        obtain ⟨W5,hW5⟩:∃ z,z=(uq17.setCell ⟨b,0,none⟩ (.slice Aq21 (j+1) cq22)):=⟨_,rfl⟩
        have H5:=Fq29.out
        rw [← hW5] at H5 ⊢
        have HR5:=Lib.hid H5
        clear hW5 H5 hHeld
        by_cases h1:x.length=1
        ·obtain ⟨hj256,hxx⟩:=one_single HO.out HX.out h1
         have hcB:=HR5.out.cB j hj256
         have d1:W5.cell? ⟨b,2+j,none⟩=some (.int .i64 ((if j < j then j else 0:Nat):Int)):=by rw [HR5.out.blk.cell];exact hcB
         have z1:=HR5.out.blk.frozen (2+j)
         obtain ⟨adb,y,e1,hy,yc⟩:=(HBT0.out.below HR5.out.below).at 0 (by omega)
         subst e1
         have yc0:W5.cell? adb=some (.int .u8 (y.toNat:Int)):=by simpa [Addr.add] using yc
         have hyj:y.toNat=j:=by
          rw [hxx] at hy
          simp at hy
          rw [← hy]
          exact UInt8.toNat_ofNat_of_lt' (by show _ < 256;omega)
         rw [hyj] at yc yc0
         have hl1:((x.length:Int)==1)=true:=by rw [h1];rfl
         have hlN:0 < x.length:=by omega
         have hl0:(0:Int) < (x.length:Int):=by omega
         have hj1:(j:Int) < 256:=by omega
         have HJ:=Lib.hid hj256
         clear hcB hxx hy hyj hj256 h1
         go_wp2_with fail
         go_still_tail 8,(by kernel_rfl)
         change wpList _ _ _ _ _ W5.drew
         go_wp2_with fail
         obtain ⟨W6,hW6⟩:∃ z,z=(W5.setCell ⟨b,2+j,none⟩ (.int .i64 (j:Nat))).drew:=⟨_,rfl⟩
         have hb6:Below W5.heap.size W5 W5:=Below.refl _ _
         have HR6:=Lib.hid ((HR5.out.setSingle HJ.out).then (w':=W6) (by rw [hW6];exact (Below.refl _ _).drew))
         rw [← hW6]
         clear hW6 hb6 d1 z1 yc yc0
         go_roundw
         case rel=>exact ⟨j+1,_,_,by omega,by go_num,HR6.out⟩
         case measure=>simp [intOf];omega
        ·have hj256:256≤j:=by
          rcases Nat.lt_or_ge j 256 with h | h
          ·have h2:=HO.out.single j h
           rw [HX.out] at h2
           cases h2
           exact absurd rfl h1
          ·exact h
         have hl1:((x.length:Int)==1)=false:=by simp;omega
         have HR6:=Lib.hid (HR5.out.skip hj256)
         clear h1
         go_wp2_with fail
         go_roundw
         case rel=>exact ⟨j+1,_,_,by omega,by go_num,HR6.out⟩
         case measure=>simp [intOf];omega
   case st7=>
    intro K hK
    go_simp
    refine (clone_any u0 Bt x.length ct x HX0.out (by have:=HXL.out;omega)).mono ?_
    rintro eq35 uq31 ⟨v,rfl,oq36,hq32⟩
    obtain ⟨Aq37,cq38,rfl⟩:=own_slice oq36
    have Hq39:Hid (Holds1 uq31 (.slice Aq37 x.length cq38) x):=Lib.hid (Holds1.own oq36 (by have:=HXL.out;unfold maxLen;omega))
    have Hq39b:Hid (∀ ad,Aq37=some ad→0 < x.length→u0.heap.size≤ad.block∧ad.block < uq31.heap.size):=Lib.hid (fun ad e _=>oq36.lt ad.block (by rw [e];rfl))
    have Rq33:=Lib.hid (HR0.out.then hq32)
    clear oq36 hq32
    go_wp2_with fail
    refine hK.out _ _ trivial (fun ht19=>?_)
    clear hK K
    try simp only [Act.put,lz3,lz4,lz5]
    refine wpAnyH_ready (rs:=[4,7]) (by kernel_rfl) (by simp) ?_
    refine AllReadyH.cons (o:=?ot20) ?ht20 ?st20 (AllReadyH.cons (o:=?ot21) ?ht21 ?st21 AllReadyH.nil)
    case ht20=>(simp only [lz0,lz1,lz2];rfl)
    case ht21=>(simp only [lz0,lz1,lz2];rfl)
    case st20=>
     intro K hK
     have yq40:uq31.cell? ⟨b,0,none⟩=some tv:=by rw [Rq33.out.blk.cell];exact Rq33.out.c0
     go_simp
     clear yq40
     refine hK.out _ _ trivial (fun ht22=>?_)
     clear hK K
     try simp only [Act.put,lz3,lz4,lz5]
     refine wpAnyH_ready (rs:=[7]) (by kernel_rfl) (by simp) ?_
     refine AllReadyH.cons (o:=?ot23) ?ht23 ?st23 AllReadyH.nil
     case ht23=>(simp only [lz0,lz1,lz2];rfl)
     case st23=>
      intro K hK
      go_simp
      obtain ⟨uq41,huq42⟩:∃ z,z=uq31.alloc (.cells #[.slice Aq37 x.length cq38] 24):=⟨_,rfl⟩
      have Nq45:Hid (Blk uq41 uq31.heap.size 24 #[.slice Aq37 x.length cq38]):=Lib.hid (by rw [huq42];exact Blk.new _ _ _)
      rw [← huq42]
      have hbq43:Below uq31.heap.size uq31 uq41:=by rw [huq42];exact (Below.refl _ uq31).alloc (Nat.le_refl _) _
      have Hq46:=Lib.hid (Hq39.out.below hbq43)
      have Hq46b:Hid (∀ ad,Aq37=some ad→0 < x.length→b+1≤ad.block∧tv.ownBlock≠some ad.block):=Lib.hid (fun ad e h0=>by
       have h1:=Hq39b.out ad e h0
       have h2:=HR.out.blk.lt
       have h3:=HSZu0.out
       exact ⟨by omega,fun e2=>by have:=HTV.out _ e2;omega⟩)
      have Rq44:=Lib.hid (Rq33.out.then hbq43)
      clear huq42 hbq43
      refine hK.out _ _ trivial (fun ht24=>?_)
      clear hK K
      try simp only [Act.put,lz3,lz4,lz5]
      refine wpAnyH_ready (rs:=[8]) (by kernel_rfl) (by simp) ?_
      refine AllReadyH.cons (o:=?ot25) ?ht25 ?st25 AllReadyH.nil
      case ht25=>(simp only [lz0,lz1,lz2];rfl)
      case st25=>
       intro K hK
       obtain ⟨svsq53,hoq54,hsq55⟩:=Rq44.out.rows
       rw [HTL.out] at hoq54
       refine step_append_srcN _ rfl (.tmp 29) (.tmp 32) 27 rfl (b+1) 24 i0 (.slice none 0 0) 1 24 Tryz.underlying27 hi hz0 hz1 hz2 rfl (by omega) tv j svsq53 rfl hoq54 (some ⟨uq31.heap.size,0,none⟩) 1 1 [.slice Aq37 x.length cq38] rfl ⟨rfl,fun ad e j u hu=>by cases e;rw [addr_add,Nq45.out.cell];simpa using hu,fun e=>by cases e⟩ (by simp [Value.oneCell']) (by unfold maxLen;omega) (by omega) Rq44.out.blk.lt ?_
       intro v' uq47 hwq48 hgq49 hlq50
       have Gq56:=Lib.hid (RowsG.push (w:=uq41) (v:=tv) (L:=V.tok.take j) (x:=x) hsq55 (by have:=hoq54.1;rw [HTL.out];simpa using this) Hq46.out (fun A c ad e1 e2 e3=>by cases e1;exact Hq46b.out ad e2 e3) (by rw [HTL.out];exact hwq48) hgq49 (hlq50.imp id fun h=>⟨_,h,Nat.le_refl _⟩))
       obtain ⟨Aq51,cq52,rfl⟩:=own_slice hwq48
       have Gq56n:Hid (b≠(Value.slice Aq51 (j+1) cq52).ownBlock.getD (b+1)):=Lib.hid (by
        cases hq:(Value.slice Aq51 (j+1) cq52).ownBlock with
        | none=>simp
        | some g=>have:=(hwq48.lt g hq).1;simp;omega)
       have Gq56g:=Lib.hid hgq49
       clear hwq48 hlq50 hoq54 hsq55
       refine hK.out _ _ trivial (fun ht26=>?_)
       clear hK K
       try simp only [Act.put,lz3,lz4,lz5]
       refine wpAnyH_take (i:=9) (oi:=?oit279) (v:=?vt279) ?hit279 (by kernel_rfl) (by kernel_rfl) (by kernel_rfl) ?hQt279 (Or.inl ⟨?hwt279,?hyt279⟩) (by assumption) ?restt279
       case hit279=>(first | (simp only [lz0,lz1,lz2];rfl) | rfl)
       case hQt279=>exact fun _ _ _ h=>h
       case hwt279=>rfl
       case hyt279=>((intro w hSw;go_simp);first | done | with_reducible rfl)
       try simp only [Act.put,lz3,lz4,lz5]
       refine wpAnyH_take (i:=10) (oi:=?oit2810) (v:=?vt2810) ?hit2810 (by kernel_rfl) (by kernel_rfl) (by kernel_rfl) ?hQt2810 (Or.inl ⟨?hwt2810,?hyt2810⟩) (by assumption) ?restt2810
       case hit2810=>(first | (simp only [lz0,lz1,lz2];rfl) | rfl)
       case hQt2810=>exact fun _ _ _ h=>h
       case hwt2810=>rfl
       case hyt2810=>((intro w hSw;go_simp);first | done | with_reducible rfl)
       try simp only [Act.put,lz3,lz4,lz5]
       refine wpAnyH_ready (rs:=[11]) (by kernel_rfl) (by simp) ?_
       refine AllReadyH.cons (o:=?ot29) ?ht29 ?st29 AllReadyH.nil
       case ht29=>(simp only [lz0,lz1,lz2];rfl)
       case st29=>
        intro K hK
        have Bq60:=Rq44.out.blk.grown Gq56g.out (fun e=>HTB.out e.symm)
        have yq57:uq47.cell? ⟨b,0,none⟩=some tv:=by rw [Bq60.cell];exact Rq44.out.c0
        have zq58:=Bq60.frozen 0
        go_simp
        clear yq57 zq58 Bq60
        have Fq59:=Lib.hid (Rq44.out.setTok (x:=x) Gq56g.out HTK.out (v':=(.slice Aq51 (j+1) cq52)) Gq56.out)
        refine hK.out _ _ trivial (fun ht30=>?_)
        clear hK K
        try simp only [Act.put,lz3,lz4,lz5]
        refine wpAnyH_done (by kernel_rfl) ?_ _
        obtain ⟨W5,hW5⟩:∃ z,z=(uq47.setCell ⟨b,0,none⟩ (.slice Aq51 (j+1) cq52)):=⟨_,rfl⟩
        have H5:=Fq59.out
        rw [← hW5] at H5 ⊢
        have HR5:=Lib.hid H5
        clear hW5 H5 hHeld
        by_cases h1:x.length=1
        ·obtain ⟨hj256,hxx⟩:=one_single HO.out HX.out h1
         have hcB:=HR5.out.cB j hj256
         have d1:W5.cell? ⟨b,2+j,none⟩=some (.int .i64 ((if j < j then j else 0:Nat):Int)):=by rw [HR5.out.blk.cell];exact hcB
         have z1:=HR5.out.blk.frozen (2+j)
         obtain ⟨adb,y,e1,hy,yc⟩:=(HBT0.out.below HR5.out.below).at 0 (by omega)
         subst e1
         have yc0:W5.cell? adb=some (.int .u8 (y.toNat:Int)):=by simpa [Addr.add] using yc
         have hyj:y.toNat=j:=by
          rw [hxx] at hy
          simp at hy
          rw [← hy]
          exact UInt8.toNat_ofNat_of_lt' (by show _ < 256;omega)
         rw [hyj] at yc yc0
         have hl1:((x.length:Int)==1)=true:=by rw [h1];rfl
         have hlN:0 < x.length:=by omega
         have hl0:(0:Int) < (x.length:Int):=by omega
         have hj1:(j:Int) < 256:=by omega
         have HJ:=Lib.hid hj256
         clear hcB hxx hy hyj hj256 h1
         go_wp2_with fail
         go_still_tail 8,(by kernel_rfl)
         change wpList _ _ _ _ _ W5.drew
         go_wp2_with fail
         obtain ⟨W6,hW6⟩:∃ z,z=(W5.setCell ⟨b,2+j,none⟩ (.int .i64 (j:Nat))).drew:=⟨_,rfl⟩
         have hb6:Below W5.heap.size W5 W5:=Below.refl _ _
         have HR6:=Lib.hid ((HR5.out.setSingle HJ.out).then (w':=W6) (by rw [hW6];exact (Below.refl _ _).drew))
         rw [← hW6]
         clear hW6 hb6 d1 z1 yc yc0
         go_roundw
         case rel=>exact ⟨j+1,_,_,by omega,by go_num,HR6.out⟩
         case measure=>simp [intOf];omega
        ·have hj256:256≤j:=by
          rcases Nat.lt_or_ge j 256 with h | h
          ·have h2:=HO.out.single j h
           rw [HX.out] at h2
           cases h2
           exact absurd rfl h1
          ·exact h
         have hl1:((x.length:Int)==1)=false:=by simp;omega
         have HR6:=Lib.hid (HR5.out.skip hj256)
         clear h1
         go_wp2_with fail
         go_roundw
         case rel=>exact ⟨j+1,_,_,by omega,by go_num,HR6.out⟩
         case measure=>simp [intOf];omega
    case st21=>
     intro K hK
     go_simp
     obtain ⟨uq61,huq62⟩:∃ z,z=uq31.alloc (.cells #[.slice Aq37 x.length cq38] 24):=⟨_,rfl⟩
     have Nq65:Hid (Blk uq61 uq31.heap.size 24 #[.slice Aq37 x.length cq38]):=Lib.hid (by rw [huq62];exact Blk.new _ _ _)
     rw [← huq62]
     have hbq63:Below uq31.heap.size uq31 uq61:=by rw [huq62];exact (Below.refl _ uq31).alloc (Nat.le_refl _) _
     have Hq66:=Lib.hid (Hq39.out.below hbq63)
     have Hq66b:Hid (∀ ad,Aq37=some ad→0 < x.length→b+1≤ad.block∧tv.ownBlock≠some ad.block):=Lib.hid (fun ad e h0=>by
      have h1:=Hq39b.out ad e h0
      have h2:=HR.out.blk.lt
      have h3:=HSZu0.out
      exact ⟨by omega,fun e2=>by have:=HTV.out _ e2;omega⟩)
     have Rq64:=Lib.hid (Rq33.out.then hbq63)
     clear huq62 hbq63
     refine hK.out _ _ trivial (fun ht31=>?_)
     clear hK K
     try simp only [Act.put,lz3,lz4,lz5]
     refine wpAnyH_ready (rs:=[4]) (by kernel_rfl) (by simp) ?_
     refine AllReadyH.cons (o:=?ot32) ?ht32 ?st32 AllReadyH.nil
     case ht32=>(simp only [lz0,lz1,lz2];rfl)
     case st32=>
      intro K hK
      have yq67:uq61.cell? ⟨b,0,none⟩=some tv:=by rw [Rq64.out.blk.cell];exact Rq64.out.c0
      go_simp
      clear yq67
      refine hK.out _ _ trivial (fun ht33=>?_)
      clear hK K
      try simp only [Act.put,lz3,lz4,lz5]
      refine wpAnyH_ready (rs:=[8]) (by kernel_rfl) (by simp) ?_
      refine AllReadyH.cons (o:=?ot34) ?ht34 ?st34 AllReadyH.nil
      case ht34=>(simp only [lz0,lz1,lz2];rfl)
      case st34=>
       intro K hK
       obtain ⟨svsq74,hoq75,hsq76⟩:=Rq64.out.rows
       rw [HTL.out] at hoq75
       refine step_append_srcN _ rfl (.tmp 29) (.tmp 32) 27 rfl (b+1) 24 i0 (.slice none 0 0) 1 24 Tryz.underlying27 hi hz0 hz1 hz2 rfl (by omega) tv j svsq74 rfl hoq75 (some ⟨uq31.heap.size,0,none⟩) 1 1 [.slice Aq37 x.length cq38] rfl ⟨rfl,fun ad e j u hu=>by cases e;rw [addr_add,Nq65.out.cell];simpa using hu,fun e=>by cases e⟩ (by simp [Value.oneCell']) (by unfold maxLen;omega) (by omega) Rq64.out.blk.lt ?_
       intro v' uq68 hwq69 hgq70 hlq71
       have Gq77:=Lib.hid (RowsG.push (w:=uq61) (v:=tv) (L:=V.tok.take j) (x:=x) hsq76 (by have:=hoq75.1;rw [HTL.out];simpa using this) Hq66.out (fun A c ad e1 e2 e3=>by cases e1;exact Hq66b.out ad e2 e3) (by rw [HTL.out];exact hwq69) hgq70 (hlq71.imp id fun h=>⟨_,h,Nat.le_refl _⟩))
       obtain ⟨Aq72,cq73,rfl⟩:=own_slice hwq69
       have Gq77n:Hid (b≠(Value.slice Aq72 (j+1) cq73).ownBlock.getD (b+1)):=Lib.hid (by
        cases hq:(Value.slice Aq72 (j+1) cq73).ownBlock with
        | none=>simp
        | some g=>have:=(hwq69.lt g hq).1;simp;omega)
       have Gq77g:=Lib.hid hgq70
       clear hwq69 hlq71 hoq75 hsq76
       refine hK.out _ _ trivial (fun ht35=>?_)
       clear hK K
       try simp only [Act.put,lz3,lz4,lz5]
       refine wpAnyH_take (i:=9) (oi:=?oit369) (v:=?vt369) ?hit369 (by kernel_rfl) (by kernel_rfl) (by kernel_rfl) ?hQt369 (Or.inl ⟨?hwt369,?hyt369⟩) (by assumption) ?restt369
       case hit369=>(first | (simp only [lz0,lz1,lz2];rfl) | rfl)
       case hQt369=>exact fun _ _ _ h=>h
       case hwt369=>rfl
       case hyt369=>((intro w hSw;go_simp);first | done | with_reducible rfl)
       try simp only [Act.put,lz3,lz4,lz5]
       refine wpAnyH_take (i:=10) (oi:=?oit3710) (v:=?vt3710) ?hit3710 (by kernel_rfl) (by kernel_rfl) (by kernel_rfl) ?hQt3710 (Or.inl ⟨?hwt3710,?hyt3710⟩) (by assumption) ?restt3710
       case hit3710=>(first | (simp only [lz0,lz1,lz2];rfl) | rfl)
       case hQt3710=>exact fun _ _ _ h=>h
       case hwt3710=>rfl
       case hyt3710=>((intro w hSw;go_simp);first | done | with_reducible rfl)
       try simp only [Act.put,lz3,lz4,lz5]
       refine wpAnyH_ready (rs:=[11]) (by kernel_rfl) (by simp) ?_
       refine AllReadyH.cons (o:=?ot38) ?ht38 ?st38 AllReadyH.nil
       case ht38=>(simp only [lz0,lz1,lz2];rfl)
       case st38=>
        intro K hK
        have Bq81:=Rq64.out.blk.grown Gq77g.out (fun e=>HTB.out e.symm)
        have yq78:uq68.cell? ⟨b,0,none⟩=some tv:=by rw [Bq81.cell];exact Rq64.out.c0
        have zq79:=Bq81.frozen 0
        go_simp
        clear yq78 zq79 Bq81
        have Fq80:=Lib.hid (Rq64.out.setTok (x:=x) Gq77g.out HTK.out (v':=(.slice Aq72 (j+1) cq73)) Gq77.out)
        refine hK.out _ _ trivial (fun ht39=>?_)
        clear hK K
        try simp only [Act.put,lz3,lz4,lz5]
        refine wpAnyH_done (by kernel_rfl) ?_ _
        obtain ⟨W5,hW5⟩:∃ z,z=(uq68.setCell ⟨b,0,none⟩ (.slice Aq72 (j+1) cq73)):=⟨_,rfl⟩
        have H5:=Fq80.out
        rw [← hW5] at H5 ⊢
        have HR5:=Lib.hid H5
        clear hW5 H5 hHeld
        by_cases h1:x.length=1
        ·obtain ⟨hj256,hxx⟩:=one_single HO.out HX.out h1
         have hcB:=HR5.out.cB j hj256
         have d1:W5.cell? ⟨b,2+j,none⟩=some (.int .i64 ((if j < j then j else 0:Nat):Int)):=by rw [HR5.out.blk.cell];exact hcB
         have z1:=HR5.out.blk.frozen (2+j)
         obtain ⟨adb,y,e1,hy,yc⟩:=(HBT0.out.below HR5.out.below).at 0 (by omega)
         subst e1
         have yc0:W5.cell? adb=some (.int .u8 (y.toNat:Int)):=by simpa [Addr.add] using yc
         have hyj:y.toNat=j:=by
          rw [hxx] at hy
          simp at hy
          rw [← hy]
          exact UInt8.toNat_ofNat_of_lt' (by show _ < 256;omega)
         rw [hyj] at yc yc0
         have hl1:((x.length:Int)==1)=true:=by rw [h1];rfl
         have hlN:0 < x.length:=by omega
         have hl0:(0:Int) < (x.length:Int):=by omega
         have hj1:(j:Int) < 256:=by omega
         have HJ:=Lib.hid hj256
         clear hcB hxx hy hyj hj256 h1
         go_wp2_with fail
         go_still_tail 8,(by kernel_rfl)
         change wpList _ _ _ _ _ W5.drew
         go_wp2_with fail
         obtain ⟨W6,hW6⟩:∃ z,z=(W5.setCell ⟨b,2+j,none⟩ (.int .i64 (j:Nat))).drew:=⟨_,rfl⟩
         have hb6:Below W5.heap.size W5 W5:=Below.refl _ _
         have HR6:=Lib.hid ((HR5.out.setSingle HJ.out).then (w':=W6) (by rw [hW6];exact (Below.refl _ _).drew))
         rw [← hW6]
         clear hW6 hb6 d1 z1 yc yc0
         go_roundw
         case rel=>exact ⟨j+1,_,_,by omega,by go_num,HR6.out⟩
         case measure=>simp [intOf];omega
        ·have hj256:256≤j:=by
          rcases Nat.lt_or_ge j 256 with h | h
          ·have h2:=HO.out.single j h
           rw [HX.out] at h2
           cases h2
           exact absurd rfl h1
          ·exact h
         have hl1:((x.length:Int)==1)=false:=by simp;omega
         have HR6:=Lib.hid (HR5.out.skip hj256)
         clear h1
         go_wp2_with fail
         go_roundw
         case rel=>exact ⟨j+1,_,_,by omega,by go_num,HR6.out⟩
         case measure=>simp [intOf];omega
  ·have hjn:j=n:=by omega
   subst hjn
   have hb1:=(two_cells (HBOX.out.below hR.below HBOX.out.lt)).2
   have HR:=Lib.hid hR
   clear hR
   go_wp2_with fail
   clear hb1
   go_loopw [51] (fun i wq=>∃ (k:Nat) (D:DataW Unit),k≤m∧i=.int .i64 (k:Nat)∧CB w2 wq V b w3.heap.size j j k tv (.slice A3 m c3) D cs) (fun i _=>m - (intOf i).toNat)
   case atStart=>exact ⟨0,_,Nat.zero_le _,rfl,HR.out⟩
   case round=>
    obtain ⟨k,D,hk,rfl,hQ⟩:=hrel
    rcases Nat.lt_or_ge k m with hlt | hge2
    ·have hmx:V.mer[k]?=some (V.mer[k]'(by rw [HML.out];exact hlt)):=List.getElem?_eq_getElem _
     obtain ⟨x,hxe⟩:∃ x,x=V.mer[k]'(by rw [HML.out];exact hlt):=⟨_,rfl⟩
     rw [← hxe] at hmx
     obtain ⟨adm,e1,ma,mb,mt⟩:=(HV2.out.mer.below hQ.below).at_ k x hmx
     subst e1
     have fx:=HV2.out.mer.bound x (List.mem_of_getElem? hmx)
     have hok:=(merOk_iff hmx).1 (HO.out.mer k (by rw [HML.out];exact hlt))
     have hno:=hok.2.1
     have htk:V.mer.take (k+1)=V.mer.take k++[x]:=by rw [List.take_add_one,hmx];rfl
     have htkl:(V.mer.take k).length=k:=by rw [List.length_take,HML.out];omega
     have HTKL:=Lib.hid htkl
     have hiR:=hQ.isR.put hno fx.1 fx.2.1
     rw [htkl,← htk] at hiR
     have HIR:=Lib.hid hiR
     have HFX:=Lib.hid fx
     have HQ:=Lib.hid hQ
     have hkn:(k:Int) < (m:Int):=by omega
     have hkz:(0:Int)≤(k:Int):=by omega
     clear hmx hxe hok hno htk htkl hiR hQ fx
     go_wp2_with fail
     obtain ⟨X,hX⟩:∃ z,z=wr.alloc (.cells #[.int .i64 x.a,.int .i64 x.b,.int .i64 x.t] 88):=⟨_,rfl⟩
     rw [← hX]
     have HX:=Lib.hid (HQ.out.then (w':=X) (by rw [hX];exact (Below.refl _ wr).alloc (Nat.le_refl _) _))
     have hN:Blk X wr.heap.size 88 #[.int .i64 x.a,.int .i64 x.b,.int .i64 x.t]:=by rw [hX];exact Blk.new _ _ _
     clear hX ma mb mt
     have n0:=hN.cell 0
     have n1:=hN.cell 1
     simp only [lz0,lz1,lz2] at n0 n1
     have d3:X.cell? ⟨b,258,none⟩=some (.map (some w3.heap.size)):=by rw [HX.out.blk.cell];exact HX.out.cM
     clear hN
     go_still_tail 10,(by kernel_rfl)
     change wpList _ _ _ _ _ X.drew
     clear n0 n1 d3
     refine wpList_mapUpdate_own _ rfl _ _ _ 89 rfl 73 3 pairLaw Tryz.underlying89 (plainElem Tryz.prog 3) w3.heap.size k D rfl HX.out.map.drew (by unfold maxLen;omega) _ _ (pk x.a x.b) rfl rfl (keyOf_pairs HFX.out.1 HFX.out.2.1) (.lit (.int .i64 (k:Int))) [] (plainElem_int Tryz.underlying3 (WalkArith.wf_i64 (by omega))) ?_
     intro w4 hown4 hgrow4
     have HY:=Lib.hid ((HX.out.then (Below.refl _ X).drew).setMap hown4 hgrow4 HIR.out)
     clear hown4 hgrow4
     go_wp2_with fail
     go_roundw
     case rel=>exact ⟨k+1,_,by omega,by go_num,HY.out⟩
     case measure=>simp [intOf];omega
    ·have hkm:k=m:=by omega
     subst hkm
     have HQ:=Lib.hid hQ
     clear hQ
     go_wp2_with fail
     go_ret
     refine ⟨b,rfl,below_then HB2.out HQ.out.below HB2.out.size,?_⟩
     have hC:=HQ.out
     have HO_long:256≤j:=by have:=HO.out.long;rw [HTL0.out] at this;exact this
     have e1:=HTL0.out
     have e2:=HML.out
     subst e1
     subst e2
     exact hC.coder HO.out HO_long (fun x hx=>HV.out.mer.bound x hx)
end Go.Proofs.YthcjikpabpgpfaaGreat
