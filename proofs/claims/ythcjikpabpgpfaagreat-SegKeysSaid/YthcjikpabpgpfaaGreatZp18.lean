import Derived.Test.YthcjikpabpgpfaaGreatZp0
import Derived.Test.YthcjikpabpgpfaaGreatZp13
import Derived.Test.YthcjikpabpgpfaaGreatZp16
import Derived.Test.YthcjikpabpgpfaaGreatZp12
import Derived.Deep.RegionHeld3
import Derived.Shelf.Abstract
import Derived.Test.YthcjikpabpgpfaaGreatZp8
import Derived.StillTailTactics
import Derived.Lib.MinMax
import Derived.RegionTactic
import Derived.ChangeAlike
import Derived.Test.YthcjikpabpgpfaaGreatZp7
import Derived.Test.YthcjikpabpgpfaaGreatZp15
set_option linter.unusedSimpArgs false
set_option maxHeartbeats 16000000
set_option maxRecDepth 100000
namespace Go.Proofs.YthcjikpabpgpfaaGreat
open Go.RowKit Go.Maps Go.WideMaps Go.Shelf
structure IsPR (w:World) (r:Nat) (s:PR):Prop where
 at_:∃ A n c,Blk w r 243 #[.slice A n c,.int .i64 s.last,.bool s.bad]∧BytesIn w A n s.left∧n≤c∧n≤1099511627776∧∀ ad,A=some ad→0 < n→ad.block < r
 low:-1≤s.last
 high:s.last≤4294967296
theorem IsPR.lt {w:World} {r:Nat} {s:PR} (h:IsPR w r s):r < w.heap.size:=by obtain ⟨A,n,c,h1,_⟩:=h.at_;exact h1.lt
theorem IsPR.below {w w':World} {r:Nat} {s:PR} (h:IsPR w r s) (hb:Below w.heap.size w w'):IsPR w' r s:=by
 obtain ⟨A,n,c,h1,h2,h3,h4,h5⟩:=h.at_
 exact ⟨⟨A,n,c,h1.below hb h1.lt,h2.below hb,h3,h4,h5⟩,h.low,h.high⟩
theorem IsPR.grown {w w':World} {r:Nat} {s:PR} {row:Option Nat} (h:IsPR w r s) (hg:w.grownBy w' row) (hr:∀ g,row=some g→r < g):IsPR w' r s:=by
 obtain ⟨A,n,c,h1,h2,h3,h4,h5⟩:=h.at_
 exact ⟨⟨A,n,c,h1.grown hg (fun e=>by have:=hr r e.symm;omega),⟨h2.1,h2.2.1.keep fun ad e h0=>hg.block _ (h2.2.2 ad e h0) (fun e2=>by have:=hr _ e2.symm;have:=h5 ad e h0;omega),fun ad e h0=>Nat.lt_of_lt_of_le (h2.2.2 ad e h0) hg.size⟩,h3,h4,h5⟩,h.low,h.high⟩
theorem kept_set {r:Nat} {a w:World} (h:Kept (fun i=>i=r) a w) (i:Nat) (u:Value):Kept (fun i=>i=r) a (w.setCell ⟨r,i,none⟩ u):=h.setCell (p:=⟨r,i,none⟩) (.inl rfl) u
theorem kept_then {r:Nat} {a b c:World} (h:Kept (fun i=>i=r) a b) (k:Kept (fun i=>i=r) b c):Kept (fun i=>i=r) a c:=h.trans k (fun _ _ h=>h)
theorem gFail_any (w:World) (r:Nat) (s:PR) (h:IsPR w r s):Calls Tryz.prog 198 #[at0 r] w fun e w'=>e=.returned (.tuple #[])∧IsPR w' r s.fail∧Kept (fun i=>i=r) w w':=by
 obtain ⟨A,n,c,h1,h2,h3,h4,h5⟩:=h.at_
 have HB:=Lib.hid h1
 have hl:=h.low
 have hh:=h.high
 have c0:=h1.cell 0
 have c2:=h1.cell 2
 have z0:=h1.frozen 0
 have z2:=h1.frozen 2
 simp at c0 c2
 clear h h1 h2
 unfold at0
 go_enter Tryz.func198,Tryz.ntmps198
 go_wp2
 go_end0
 have e1:=(HB.out.set_ 0 (.slice none 0 0)).set_ 2 (.bool true)
 refine ⟨rfl,⟨⟨none,0,0,by simpa [PR.fail] using e1,BytesIn.nil _,by omega,by omega,fun ad e=>by cases e⟩,hl,hh⟩,?_⟩
 exact kept_set (kept_set (Kept.refl _ w) 0 _) 2 _
theorem gNumber_any (w:World) (r:Nat) (s:PR) (h:IsPR w r s) (most:Nat):Calls Tryz.prog 167 #[at0 r,.int .u64 most] w fun e w'=>e=.returned (.int .u64 (rNum s most).1)∧IsPR w' r (rNum s most).2∧Kept (fun i=>i=r) w w':=by
 obtain ⟨A,n,c,h1,h2,h3,h4,h5⟩:=h.at_
 have hln:s.left.length=n:=by have:=h2.2.1.len;simpa using this
 have HP:=Lib.hid h
 have HB:=Lib.hid h1
 have HX:=Lib.hid h2
 have HLN:=Lib.hid hln
 have H5:=Lib.hid h5
 have c0:=h1.cell 0
 have z0:=h1.frozen 0
 simp at c0
 obtain ⟨R,hR⟩:∃ R,R=rNum s most:=⟨_,rfl⟩
 rw [← hR]
 unfold rNum at hR
 have HG:=Lib.hid (lGet_any w A n c s.left h2)
 have hinv:(getL s.left).2.2=0→(getL s.left).2.1≤n∧(getL s.left).1 < 18446744073709551616:=fun e=>by
  have:=getL_le e
  rw [hln] at this
  exact this
 unfold gotV at HG
 obtain ⟨G,hG⟩:∃ G,G=getL s.left:=⟨_,rfl⟩
 rw [← hG] at HG hR hinv
 obtain ⟨v,j,e0⟩:=G
 simp only at HG hR hinv
 clear h h1 h2 h5 hln hG
 unfold at0
 by_cases he:e0=0
 ·subst he
  obtain ⟨q1,q2⟩:=hinv rfl
  clear hinv
  by_cases hv:most < v
  ·have d1:decide ((most:Int) < (v:Int))=true:=decide_eq_true (by omega)
   rw [if_pos (.inr hv)] at hR
   have HR:=Lib.hid hR
   clear hR
   go_enter Tryz.func167,Tryz.ntmps167
   go_wp2_with fail
   refine HG.out.mono ?_
   rintro e w1 ⟨rfl,rfl⟩
   go_wp2_with fail
   refine (gFail_any w1 r s HP.out).mono ?_
   rintro e w2 ⟨rfl,hp,hk⟩
   have HP2:=Lib.hid hp
   have HK2:=Lib.hid hk
   clear hp hk
   go_wp2
   go_ret
   rw [HR.out]
   exact ⟨rfl,HP2.out,HK2.out⟩
  ·have d1:decide ((most:Int) < (v:Int))=false:=decide_eq_false (by omega)
   rw [if_neg (by simp;omega)] at hR
   have HR:=Lib.hid hR
   have hsl:=fun w=>slice_from w A n c j q1
   have hsub:=HX.out.sub h3 j n q1 (Nat.le_refl _)
   rw [List.take_of_length_le (by rw [HLN.out];exact Nat.le_refl _)] at hsub
   have HSUB:=Lib.hid hsub
   clear hR hsub
   go_enter Tryz.func167,Tryz.ntmps167
   go_wp2_with fail
   refine HG.out.mono ?_
   rintro e w1 ⟨rfl,rfl⟩
   go_wp2
   go_ret
   rw [HR.out]
   have e1:=HB.out.set_ 0 (.slice (cutAddr A j c) (n - j) (c - j))
   have hk:Kept (fun i=>i=r) w1 (w1.setCell ⟨r,0,none⟩ (.slice (cutAddr A j c) (n - j) (c - j))):=kept_set (Kept.refl _ w1) 0 _
   have hne:∀ ad,cutAddr A j c=some ad→0 < n - j→ad.block < r:=fun ad e h0=>by
    unfold cutAddr at e
    split at e
    ·exact H5.out ad e (by omega)
    ·cases A with
     | none=>cases e
     | some b=>
      simp at e
      subst e
      have:(b.add j).block=b.block:=by unfold Addr.add;split <;> rfl
      rw [this]
      exact H5.out b rfl (by omega)
   refine ⟨rfl,⟨⟨_,_,_,by simpa using e1,⟨HSUB.out.1,HSUB.out.2.1.keep fun ad e h0=>Below.heap_setCell _ _ _ _ (Nat.ne_of_lt (hne ad e h0)),fun ad e h0=>by rw [size_setCell'];exact HSUB.out.2.2 ad e h0⟩,by omega,by omega,hne⟩,HP.out.low,HP.out.high⟩,hk⟩
 ·have d1:(e0 != 0)=true:=by simpa using he
  rw [if_pos (.inl he)] at hR
  have HR:=Lib.hid hR
  clear hR hinv he
  go_enter Tryz.func167,Tryz.ntmps167
  go_wp2_with fail
  refine HG.out.mono ?_
  rintro e w1 ⟨rfl,rfl⟩
  go_wp2_with fail
  refine (gFail_any w1 r s HP.out).mono ?_
  rintro e w2 ⟨rfl,hp,hk⟩
  have HP2:=Lib.hid hp
  have HK2:=Lib.hid hk
  clear hp hk
  go_wp2
  go_ret
  rw [HR.out]
  exact ⟨rfl,HP2.out,HK2.out⟩
theorem gRising_any (w:World) (r:Nat) (s:PR) (h:IsPR w r s):Calls Tryz.prog 197 #[at0 r] w fun e w'=>∃ v,e=.returned v∧w'.ownsRow w.heap.size 2 1 v (rRise s).1.length ((rRise s).1.map i64V)∧IsPR w' r (rRise s).2∧Kept (fun i=>i=r) w w':=by
 obtain ⟨A,n,c,h1,h2,h3,h4,h5⟩:=h.at_
 have hln:s.left.length=n:=by have:=h2.2.1.len;simpa using this
 have hrl:=h.lt
 have HP:=Lib.hid h
 have HB:=Lib.hid h1
 have HX:=Lib.hid h2
 have HLN:=Lib.hid hln
 have H5:=Lib.hid h5
 have c0:=h1.cell 0
 simp at c0
 obtain ⟨R,hR⟩:∃ R,R=rRise s:=⟨_,rfl⟩
 rw [← hR]
 unfold rRise at hR
 have HG:=Lib.hid (lGetRising_any w A n c s.left h2 h3 h4 4096 (by omega) (by omega))
 have hinv:(getR s.left 4096).2.2=0→(getR s.left 4096).2.1≤n:=fun e=>by
  have:=(getR_le e).1
  rwa [hln] at this
 unfold GetROut at HG
 obtain ⟨G,hG⟩:∃ G,G=getR s.left 4096:=⟨_,rfl⟩
 rw [← hG] at HG hR hinv
 obtain ⟨l,j,e0⟩:=G
 simp only at HG hR hinv
 clear h h1 h2 h5 hln hG
 unfold at0
 by_cases he:e0=0
 ·subst he
  have q1:=hinv rfl
  rw [if_neg (by simp)] at hR
  have HR:=Lib.hid hR
  have hsl:=fun w=>slice_from w A n c j q1
  have hsub:=HX.out.sub h3 j n q1 (Nat.le_refl _)
  rw [List.take_of_length_le (by rw [HLN.out];exact Nat.le_refl _)] at hsub
  have HSUB:=Lib.hid hsub
  clear hR hsub hinv
  go_enter Tryz.func197,Tryz.ntmps197
  go_wp2_with fail
  refine HG.out.mono ?_
  rintro e w1 ⟨v1,rfl,hb1,ho1⟩
  have HB1:=Lib.hid hb1
  have HO1:=Lib.hid ho1
  have HBK1:=Lib.hid (HB.out.below hb1 hrl)
  have HSUB1:=Lib.hid (HSUB.out.below hb1)
  have t0:=HBK1.out.cell 0
  have z0:=HBK1.out.frozen 0
  simp at t0
  clear hb1 ho1 c0
  go_wp2
  go_ret
  rw [HR.out]
  have e1:=HBK1.out.set_ 0 (.slice (cutAddr A j c) (n - j) (c - j))
  have hk:Kept (fun i=>i=r) w (w1.setCell ⟨r,0,none⟩ (.slice (cutAddr A j c) (n - j) (c - j))):=kept_set (Kept.below HB1.out) 0 _
  have hne:∀ ad,cutAddr A j c=some ad→0 < n - j→ad.block < r:=fun ad e h0=>by
   unfold cutAddr at e
   split at e
   ·exact H5.out ad e (by omega)
   ·cases A with
    | none=>cases e
    | some b=>
     simp at e
     subst e
     have:(b.add j).block=b.block:=by unfold Addr.add;split <;> rfl
     rw [this]
     exact H5.out b rfl (by omega)
  refine ⟨v1,rfl,?_,⟨⟨_,_,_,by simpa using e1,⟨HSUB1.out.1,HSUB1.out.2.1.keep fun ad e h0=>Below.heap_setCell _ _ _ _ (Nat.ne_of_lt (hne ad e h0)),fun ad e h0=>by rw [size_setCell'];exact HSUB1.out.2.2 ad e h0⟩,by omega,by omega,hne⟩,HP.out.low,HP.out.high⟩,hk⟩
  exact ownsRow_block HO1.out fun g hg=>Below.heap_setCell _ _ _ _ (by have:=(HO1.out.lt g hg).1;simp only;omega)
 ·have d1:(e0 != 0)=true:=by simpa using he
  rw [if_pos he] at hR
  have HR:=Lib.hid hR
  clear hR hinv he
  go_enter Tryz.func197,Tryz.ntmps197
  go_wp2_with fail
  refine HG.out.mono ?_
  rintro e w1 ⟨v1,rfl,hb1,ho1⟩
  have HB1:=Lib.hid hb1
  have HP1:=Lib.hid (HP.out.below hb1)
  clear hb1 ho1
  go_wp2_with fail
  refine (gFail_any w1 r s HP1.out).mono ?_
  rintro e w2 ⟨rfl,hp,hk⟩
  have HP2:=Lib.hid hp
  have HK2:=Lib.hid (kept_then (Kept.below HB1.out) hk)
  clear hp hk
  go_wp2
  go_ret
  rw [HR.out]
  exact ⟨_,rfl,⟨rfl,.inl ⟨rfl,rfl⟩⟩,HP2.out,HK2.out⟩
theorem rNum_le (s:PR) (most:Nat):(rNum s most).1≤most:=by
 unfold rNum
 split
 ·exact Nat.zero_le _
 ·rename_i h
  simp only
  omega
theorem rNum_last (s:PR) (most:Nat):(rNum s most).2.last=s.last:=by
 unfold rNum
 split <;> rfl
theorem gDoc_any (w:World) (r:Nat) (s:PR) (h:IsPR w r s):Calls Tryz.prog 196 #[at0 r] w fun e w'=>e=.returned (.int .i64 (rDoc s).1)∧IsPR w' r (rDoc s).2∧Kept (fun i=>i=r) w w':=by
 have hlow:=h.low
 have hhigh:=h.high
 have hlt:=h.lt
 obtain ⟨A,n,c,h1,h2,h3,h4,h5⟩:=h.at_
 have HP:=Lib.hid h
 have HB:=Lib.hid h1
 have hnum:=gNumber_any w.drew r s (h.below (below_drewN (Below.refl _ w) 1)) 4294967296
 have hle:=rNum_le s 4294967296
 have hla:=rNum_last s 4294967296
 obtain ⟨R,hR⟩:∃ R,R=rDoc s:=⟨_,rfl⟩
 rw [← hR]
 unfold rDoc at hR
 obtain ⟨z,hz⟩:∃ z,z=rNum s 4294967296:=⟨_,rfl⟩
 rw [← hz] at hR hle hla hnum
 obtain ⟨k,z2⟩:=z
 simp only at hR hle hla hnum
 have HNUM:=Lib.hid hnum
 have HR:=Lib.hid hR
 have HLA:=Lib.hid hla
 obtain ⟨la,hla0⟩:∃ la,la=s.last:=⟨_,rfl⟩
 have c1:=h1.cell 1
 simp at c1
 rw [← hla0] at c1 hlow hhigh
 have HL0:=Lib.hid hla0
 have hw1:IntKind.i64.wrap (la+1)=la+1:=IntWalk.i64_in _ (by omega)
 have hw2:IntKind.i64.wrap (k:Int)=(k:Int):=IntWalk.i64_in _ (by omega)
 have hw3:IntKind.i64.wrap (la+1+(k:Int))=la+1+(k:Int):=IntWalk.i64_in _ (by omega)
 clear h h1 h2 h5 hz hR hnum hla hla0
 unfold at0
 go_enter Tryz.func196,Tryz.ntmps196
 go_wp2_with fail
 refine wp_region_held_drew (S:=fun w'=>w'.cell? ⟨r,1,none⟩=some (.int .i64 la)) (by kernel_rfl) ?_ (fun hHeld=>?_)
 ·exact c1
 refine wpAnyH_take (i:=0) (oi:=?oit0) (v:=?vt0) ?hit0 (by kernel_rfl) (by kernel_rfl) (by kernel_rfl) ?hQt0 (Or.inl ⟨?hwt0,?hyt0⟩) (by assumption) ?restt0
 case hit0=>(first | (simp only [lz0,lz1,lz2];rfl) | rfl)
 case hQt0=>exact fun _ _ _ h=>h
 case hwt0=>rfl
 case hyt0=>((intro w hSw;go_simp);first | done | with_reducible rfl)
 try simp only [Act.put,lz3,lz4,lz5]
 refine wpAnyH_take (i:=1) (oi:=?oit1) (v:=?vt1) ?hit1 (by kernel_rfl) (by kernel_rfl) (by kernel_rfl) ?hQt1 (Or.inl ⟨?hwt1,?hyt1⟩) (by assumption) ?restt1
 case hit1=>(first | (simp only [lz0,lz1,lz2];rfl) | rfl)
 case hQt1=>exact fun _ _ _ h=>h
 case hwt1=>rfl
 case hyt1=>((intro w hSw;go_simp);first | done | with_reducible rfl)
 try simp only [Act.put,lz3,lz4,lz5]
 refine wpAnyH_take (i:=2) (oi:=?oit2) (v:=?vt2) ?hit2 (by kernel_rfl) (by kernel_rfl) (by kernel_rfl) ?hQt2 (Or.inl ⟨?hwt2,?hyt2⟩) (by assumption) ?restt2
 case hit2=>(first | (simp only [lz0,lz1,lz2];rfl) | rfl)
 case hQt2=>exact fun _ _ _ h=>h
 case hwt2=>rfl
 case hyt2=>((intro w hSw;go_simp);first | done | with_reducible rfl)
 try simp only [Act.put,lz3,lz4,lz5]
 refine wpAnyH_take (i:=3) (oi:=?oit3) (v:=?vt3) ?hit3 (by kernel_rfl) (by kernel_rfl) (by kernel_rfl) ?hQt3 (Or.inl ⟨?hwt3,?hyt3⟩) (by assumption) ?restt3
 case hit3=>(first | (simp only [lz0,lz1,lz2];rfl) | rfl)
 case hQt3=>exact fun _ _ _ h=>h
 case hwt3=>rfl
 case hyt3=>((intro w hSw;go_simp);first | done | with_reducible rfl)
 try simp only [Act.put,lz3,lz4,lz5]
 refine wpAnyH_take (i:=4) (oi:=?oit4) (v:=?vt4) ?hit4 (by kernel_rfl) (by kernel_rfl) (by kernel_rfl) ?hQt4 (Or.inl ⟨?hwt4,?hyt4⟩) (by assumption) ?restt4
 case hit4=>(first | (simp only [lz0,lz1,lz2];rfl) | rfl)
 case hQt4=>exact fun _ _ _ h=>h
 case hwt4=>rfl
 case hyt4=>((intro w hSw;go_simp);first | done | with_reducible rfl)
 try simp only [Act.put,lz3,lz4,lz5]
 refine wpAnyH_take (i:=5) (oi:=?oit5) (v:=?vt5) ?hit5 (by kernel_rfl) (by kernel_rfl) (by kernel_rfl) ?hQt5 (Or.inl ⟨?hwt5,?hyt5⟩) (by assumption) ?restt5
 case hit5=>(first | (simp only [lz0,lz1,lz2];rfl) | rfl)
 case hQt5=>exact fun _ _ _ h=>h
 case hwt5=>rfl
 case hyt5=>((intro w hSw;go_simp);first | done | with_reducible rfl)
 try simp only [Act.put,lz3,lz4,lz5]
 refine wpAnyH_ready (rs:=[6]) (by kernel_rfl) (by simp) ?_
 refine AllReadyH.cons (o:=?oc1) ?hcc1 ?stc1 AllReadyH.nil
 case hcc1=>(simp only [lz0,lz1,lz2];rfl)
 intro K hK
 go_simp
 refine HNUM.out.mono ?_
 rintro e w2 ⟨rfl,hp,hk⟩
 have hS2:w2.cell? ⟨r,1,none⟩=some (.int .i64 la):=by
  obtain ⟨A2,n2,c2,q1,_⟩:=hp.at_
  have:=q1.cell 1
  simp at this
  rw [this,HLA.out,HL0.out]
 have HP2:=Lib.hid hp
 have HK2:Hid (Kept (fun i=>i=r) w w2):=Lib.hid ⟨hk.os,hk.tape,hk.output,hk.size,hk.block⟩
 clear hp hk
 go_wp2_with fail
 refine hK.out _ _ hS2 (fun _=>?_)
 clear hK K
 refine wpAnyH_take (i:=7) (oi:=?oiu7) (v:=?vu7) ?hiu7 (by kernel_rfl) (by kernel_rfl) (by kernel_rfl) ?hQu7 (Or.inl ⟨?hwu7,?hyu7⟩) (by assumption) ?restu7
 case hiu7=>(first | (simp only [lz0,lz1,lz2];rfl) | rfl)
 case hQu7=>exact fun _ _ _ h=>h
 case hwu7=>rfl
 case hyu7=>((intro w hSw;go_simp);first | done | with_reducible rfl)
 try simp only [Act.put,lz3,lz4,lz5]
 refine wpAnyH_take (i:=8) (oi:=?oiu8) (v:=?vu8) ?hiu8 (by kernel_rfl) (by kernel_rfl) (by kernel_rfl) ?hQu8 (Or.inl ⟨?hwu8,?hyu8⟩) (by assumption) ?restu8
 case hiu8=>(first | (simp only [lz0,lz1,lz2];rfl) | rfl)
 case hQu8=>exact fun _ _ _ h=>h
 case hwu8=>rfl
 case hyu8=>((intro w hSw;go_simp);first | done | with_reducible rfl)
 try simp only [Act.put,lz3,lz4,lz5]
 refine wpAnyH_take (i:=9) (oi:=?oiu9) (v:=?vu9) ?hiu9 (by kernel_rfl) (by kernel_rfl) (by kernel_rfl) ?hQu9 (Or.inl ⟨?hwu9,?hyu9⟩) (by assumption) ?restu9
 case hiu9=>(first | (simp only [lz0,lz1,lz2];rfl) | rfl)
 case hQu9=>exact fun _ _ _ h=>h
 case hwu9=>rfl
 case hyu9=>((intro w hSw;go_simp);first | done | with_reducible rfl)
 try simp only [Act.put,lz3,lz4,lz5]
 refine wpAnyH_done (by kernel_rfl) ?_ _
 obtain ⟨d,hd⟩:∃ d,d=la+1+(k:Int):=⟨_,rfl⟩
 have hr:=HR.out
 rw [← HL0.out,← hd] at hr
 rw [← hd]
 have HR2:=Lib.hid hr
 clear hr
 by_cases hbig:4294967296 < d
 ·have d1:decide ((4294967296:Int) < d)=true:=decide_eq_true hbig
  clear hd hw3
  go_wp2_with fail
  refine (gFail_any w2 r z2 HP2.out).mono ?_
  rintro e w3 ⟨rfl,hp3,hk3⟩
  have HP3:=Lib.hid hp3
  have HK3:=Lib.hid (kept_then HK2.out hk3)
  clear hp3 hk3
  go_wp2
  go_ret
  rw [HR2.out,if_pos hbig]
  exact ⟨rfl,HP3.out,HK3.out⟩
 ·have d1:decide ((4294967296:Int) < d)=false:=decide_eq_false hbig
  clear hd hw3
  go_wp2
  go_ret
  rw [HR2.out,if_neg (show ¬ 4294967296 < d by omega)]
  exact ⟨rfl,HP2.out,HK2.out⟩
def RetP (r:Nat) (w:World) (R:List Pst×PR) (e:Ending) (w':World):Prop:=∃ v,e=.returned v∧PostsO w' w.heap.size v R.1∧IsPR w' r R.2∧Kept (fun i=>i=r) w w'
theorem rDoc_high {s:PR} (hb:s.last≤4294967296) (h0:-1≤s.last):(rRise (rDoc s).2).1.length≠0→-1≤(rDoc s).1∧(rDoc s).1≤4294967296:=by
 intro h
 unfold rDoc at h ⊢
 simp only at h ⊢
 by_cases h1:4294967296 < s.last+1+((rNum s 4294967296).1:Int)
 ·rw [if_pos h1] at h
  exfalso
  apply h
  unfold rRise PR.fail getR
  simp [getL,getAux]
 ·omega
theorem rRise_le (s:PR):(rRise s).1.length≤4096∧∀ x∈(rRise s).1,fits64 x:=by
 unfold rRise
 split
 ·exact ⟨by simp,by simp⟩
 ·rename_i h
  have h1:(getR s.left 4096).2.2=0:=by
   rcases Decidable.em ((getR s.left 4096).2.2=0) with h2 | h2
   ·exact h2
   ·exact absurd h2 h
  obtain ⟨q1,q2,q3,q4⟩:=getR_le h1
  refine ⟨by simp only;omega,fun x hx=>?_⟩
  have h3:=rises_ge q3 x hx
  have h4:=q4 x hx
  unfold fits64
  omega
theorem one_post {w:World} {d:Int} {v:Value} {x:Pst} {far:Nat→Prop} (h:PostAt w x (d,v) far) (hf:∀ i,i < w.heap.size→far i→w.heap.size≤w.heap.size) (base:Nat) (hb:base≤w.heap.size) (hfar:∀ i,far i→base≤i):
  PostsO (w.alloc (.cells #[.int .i64 d,v] 62)) base (.slice (some ⟨w.heap.size,0,none⟩) 1 1) [x]:=by
 have _:=hf
 refine ⟨[(d,v)],rfl,⟨rfl,.inr ⟨w.heap.size,1,#[.int .i64 d,v],rfl,hb,heap_alloc_new w _,Nat.le_refl _,by unfold maxLen;omega,rfl,rfl⟩⟩,fun i p y e1 e2=>?_⟩
 match i with
 | 0=>
  simp at e1 e2
  subst e1 e2
  exact h.mono (fun i hi hfi=>⟨Below.heap_alloc w _ i hi,hfar i hfi,fun e=>by have:=Option.some.inj e;simp only at this;omega⟩) (by simp)
 | i+1=>simp at e1
theorem gPost_any (w:World) (r:Nat) (s:PR) (h:IsPR w r s):Calls Tryz.prog 164 #[at0 r] w (RetP r w (rPost s)):=by
 obtain ⟨i1,hi1,hy0,hy1,hy2⟩:=info_parts spotInfo
 have hlow:=h.low
 have hhigh:=h.high
 have hlt:=h.lt
 have HDOC:=Lib.hid (gDoc_any w r s h)
 have hdh:=rDoc_high hhigh hlow
 have hpl:=rRise_le (rDoc s).2
 have hal:=rRise_le (rRise (rDoc s).2).2
 obtain ⟨R,hR⟩:∃ R,R=rPost s:=⟨_,rfl⟩
 rw [← hR]
 unfold rPost rSpots at hR
 obtain ⟨D,hD⟩:∃ D,D=rDoc s:=⟨_,rfl⟩
 rw [← hD] at HDOC hdh hpl hal hR
 obtain ⟨d,s1⟩:=D
 simp only at HDOC hdh hpl hal hR
 obtain ⟨P',hP⟩:∃ P',P'=rRise s1:=⟨_,rfl⟩
 rw [← hP] at hdh hpl hal hR
 have HP1:=Lib.hid hP
 obtain ⟨P,s2⟩:=P'
 simp only at hdh hpl hal hR
 obtain ⟨A',hA⟩:∃ A',A'=rRise s2:=⟨_,rfl⟩
 rw [← hA] at hal hR
 have HA1:=Lib.hid hA
 obtain ⟨A,s3⟩:=A'
 simp only at hal hR
 have HR:=Lib.hid hR
 have HPF:=Lib.hid hpl.2
 have HAF:=Lib.hid hal.2
 have hPl:=hpl.1
 have hAl:=hal.1
 clear h hR hD hP hA hpl hal
 unfold at0
 go_enter Tryz.func164,Tryz.ntmps164
 go_wp2_with fail
 refine HDOC.out.mono ?_
 rintro e w1 ⟨rfl,hp1,hk1⟩
 have HK1:=Lib.hid hk1
 have hz1:=hk1.size
 have HRISE:=Lib.hid (gRising_any w1 r s1 hp1)
 rw [← HP1.out] at HRISE
 clear hk1 hp1
 go_wp2_with fail
 refine HRISE.out.mono ?_
 rintro e w2 ⟨v2,rfl,ho2,hp2,hk2⟩
 have HK2:=Lib.hid (kept_then HK1.out hk2)
 have HO2:=Lib.hid ho2
 have hz2:=hk2.size
 have HRISE2:=Lib.hid (gRising_any w2 r s2 hp2)
 rw [← HA1.out] at HRISE2
 obtain ⟨AP,cP,rfl⟩:=own_slice ho2
 clear ho2 hp2 hk2
 go_wp2_with fail
 refine HRISE2.out.mono ?_
 rintro e w3 ⟨v3,rfl,ho3,hp3,hk3⟩
 have HK3:=Lib.hid (kept_then HK2.out hk3)
 have HO3:=Lib.hid ho3
 have HOP:=Lib.hid (ownsRow_block HO2.out (w':=w3) fun g hg=>hk3.block g (HO2.out.lt g hg).2 (fun e=>by have:=(HO2.out.lt g hg).1;omega))
 have HP3:=Lib.hid hp3
 have hz3:=hk3.size
 obtain ⟨AA,cA,rfl⟩:=own_slice ho3
 clear ho3 hp3 hk3
 by_cases hp0:P.length=0
 ·have d1:((P.length:Int)==0)=true:=by rw [hp0];rfl
  have hr:=HR.out
  rw [if_pos (.inl hp0)] at hr
  have HR:=Lib.hid hr
  clear hr hp0 hdh
  go_wp2_with fail
  refine (gFail_any w3 r s3 HP3.out).mono ?_
  rintro e w4 ⟨rfl,hp4,hk4⟩
  have HP4:=Lib.hid hp4
  have HK4:=Lib.hid (kept_then HK3.out hk4)
  clear hp4 hk4
  go_wp2
  go_ret
  rw [HR.out]
  exact ⟨_,rfl,PostsO.nil _ _,HP4.out,HK4.out⟩
 ·have d1:((P.length:Int)==0)=false:=beq_eq_false_iff_ne.2 (fun e=>hp0 (by omega))
  by_cases hpa:P.length=A.length
  ·have d2:((P.length:Int) != (A.length:Int))=false:=by simp;omega
   have hr:=HR.out
   rw [if_neg (fun e=>e.elim hp0 (fun e=>e hpa))] at hr
   have HR:=Lib.hid hr
   obtain ⟨hd0,hd1⟩:=hdh hp0
   obtain ⟨n,hn⟩:∃ n,n=P.length:=⟨_,rfl⟩
   have hnA:A.length=n:=by omega
   have hn0:0 < n:=by omega
   obtain ⟨B3,n3,c3,q1,q2,q3,q4,q5⟩:=HP3.out.at_
   have HB3:=Lib.hid q1
   have t1:=q1.cell 1
   have z1:=q1.frozen 1
   simp at t1
   obtain ⟨w4,hw4⟩:∃ w4,w4=w3.setCell ⟨r,1,none⟩ (.int .i64 d):=⟨_,rfl⟩
   have HP4:Hid (IsPR w4 r ⟨s3.left,d,s3.bad⟩):=Lib.hid (by
    rw [hw4]
    have e1:=q1.set_ 1 (.int .i64 d)
    exact ⟨⟨B3,n3,c3,by simpa using e1,⟨q2.1,q2.2.1.keep fun ad e h0=>Below.heap_setCell _ _ _ _ (Nat.ne_of_lt (q5 ad e h0)),fun ad e h0=>by rw [size_setCell'];exact q2.2.2 ad e h0⟩,q3,q4,q5⟩,hd0,hd1⟩)
   have HK4:Hid (Kept (fun i=>i=r) w w4):=Lib.hid (by rw [hw4];exact kept_set HK3.out 1 _)
   have HPI:Hid (IntsIn w4 AP n P):=Lib.hid (by
    have:=IntsIn.own (w:=w4) (base:=w1.heap.size) (by rw [hw4];exact ownsRow_block HOP.out fun g hg=>Below.heap_setCell _ _ _ _ (by have:=(HO2.out.lt g hg).1;simp only;omega)) (by unfold maxLen;omega) HPF.out
    rw [hn];exact this)
   have HAI:Hid (IntsIn w4 AA n A):=Lib.hid (by
    have:=IntsIn.own (w:=w4) (base:=w2.heap.size) (by rw [hw4];exact ownsRow_block HO3.out fun g hg=>Below.heap_setCell _ _ _ _ (by have:=(HO3.out.lt g hg).1;simp only;omega)) (by unfold maxLen;omega) HAF.out
    rw [hnA] at this;exact this)
   have hz4:w4.heap.size=w3.heap.size:=by rw [hw4];exact size_setCell' _ _ _
   have HW4:=Lib.hid hw4
   rw [← hn,hnA] at d2
   rw [← hn] at d1
   have HNP:=Lib.hid hn.symm
   have HNA:=Lib.hid hnA
   have hn4:n≤4096:=by omega
   rw [hnA,← hn]
   clear q1 q2 q3 q4 q5 hw4 hr hp0 hpa hPl hAl hn hnA hdh
   have hzl:(P.zip A).length=n:=by rw [List.length_zip];have:=HNP.out;have:=HNA.out;omega
   have HZL:=Lib.hid hzl
   clear hzl
   go_wp2_with fail
   rw [← HW4.out]
   clear t1 z1
   go_loopw [6,32] (fun v i wr=>∃ k:Nat,k≤n∧i=.int .i64 k∧wr.ownsRow w4.heap.size 64 2 v k (((P.zip A).take k).flatMap twoCells)∧Below w4.heap.size w4 wr) (fun _ i _=>n - (intOf i).toNat)
   case atStart=>exact ⟨0,by omega,rfl,⟨rfl,.inl ⟨rfl,rfl⟩⟩,Below.refl _ _⟩
   case round=>
    obtain ⟨k,hk,rfl,hO,hB⟩:=hrel
    have HO:=Lib.hid hO
    have HB:=Lib.hid hB
    have hbz:=hB.size
    clear hO hB
    obtain ⟨Av,cv,hv⟩:=own_slice HO.out
    subst hv
    rcases Nat.lt_or_ge k n with hlt2 | hge
    ·have hlt':(k:Int) < (n:Int):=by omega
     have p0:(0:Int)≤(k:Int):=by omega
     have hw5:IntKind.i64.wrap ((k:Int)+1)=(k:Int)+1:=IntWalk.i64_in _ (by omega)
     obtain ⟨pP,x1,rfl,hx1,a0,-,-⟩:=(HPI.out.below HB.out).at k hlt2
     obtain ⟨pA,x2,rfl,hx2,b0,-,-⟩:=(HAI.out.below HB.out).at k hlt2
     obtain ⟨_,y1,e1,hy,g0,-,-⟩:=HPI.out.at k hlt2
     obtain ⟨_,y2,e2,hy',g1,-,-⟩:=HAI.out.at k hlt2
     obtain rfl:=Option.some.inj e1
     obtain rfl:=Option.some.inj e2
     obtain rfl:=Option.some.inj (hx1.symm.trans hy)
     obtain rfl:=Option.some.inj (hx2.symm.trans hy')
     have HPI4:=Lib.hid g0
     have HAI4:=Lib.hid g1
     clear e1 e2 hy hy' g0 g1
     have HTK:Hid ((P.zip A).take (k+1)=(P.zip A).take k++[(x1,x2)]):=Lib.hid (by
      rw [List.take_add_one,(List.getElem?_zip_eq_some (z:=(x1,x2))).2 ⟨hx1,hx2⟩]
      rfl)
     clear hx1 hx2
     go_wp2_with fail
     refine wp_region_held_drew (S:=fun w'=>w'.cell? (pP.add k)=some (.int .i64 x1)∧w'.cell? (pA.add k)=some (.int .i64 x2)) (by kernel_rfl) ?_ (fun hHeld=>?_)
     ·exact ⟨a0,b0⟩
     refine wpAnyH_take (i:=0) (oi:=?oit0) (v:=?vt0) ?hit0 (by kernel_rfl) (by kernel_rfl) (by kernel_rfl) ?hQt0 (Or.inl ⟨?hwt0,?hyt0⟩) (by assumption) ?restt0
     case hit0=>(first | (simp only [lz0,lz1,lz2];rfl) | rfl)
     case hQt0=>exact fun _ _ _ h=>h
     case hwt0=>rfl
     case hyt0=>((intro w hSw;obtain ⟨hS1,hS2⟩:=hSw;go_simp);first | done | with_reducible rfl)
     try simp only [Act.put,lz3,lz4,lz5]
     refine wpAnyH_take (i:=1) (oi:=?oit1) (v:=?vt1) ?hit1 (by kernel_rfl) (by kernel_rfl) (by kernel_rfl) ?hQt1 (Or.inl ⟨?hwt1,?hyt1⟩) (by assumption) ?restt1
     case hit1=>(first | (simp only [lz0,lz1,lz2];rfl) | rfl)
     case hQt1=>exact fun _ _ _ h=>h
     case hwt1=>rfl
     case hyt1=>((intro w hSw;obtain ⟨hS1,hS2⟩:=hSw;go_simp);first | done | with_reducible rfl)
     try simp only [Act.put,lz3,lz4,lz5]
     refine wpAnyH_take (i:=2) (oi:=?oit2) (v:=?vt2) ?hit2 (by kernel_rfl) (by kernel_rfl) (by kernel_rfl) ?hQt2 (Or.inl ⟨?hwt2,?hyt2⟩) (by assumption) ?restt2
     case hit2=>(first | (simp only [lz0,lz1,lz2];rfl) | rfl)
     case hQt2=>exact fun _ _ _ h=>h
     case hwt2=>rfl
     case hyt2=>((intro w hSw;obtain ⟨hS1,hS2⟩:=hSw;go_simp);first | done | with_reducible rfl)
     try simp only [Act.put,lz3,lz4,lz5]
     refine wpAnyH_take (i:=3) (oi:=?oit3) (v:=?vt3) ?hit3 (by kernel_rfl) (by kernel_rfl) (by kernel_rfl) ?hQt3 (Or.inl ⟨?hwt3,?hyt3⟩) (by assumption) ?restt3
     case hit3=>(first | (simp only [lz0,lz1,lz2];rfl) | rfl)
     case hQt3=>exact fun _ _ _ h=>h
     case hwt3=>rfl
     case hyt3=>((intro w hSw;obtain ⟨hS1,hS2⟩:=hSw;go_simp);first | done | with_reducible rfl)
     try simp only [Act.put,lz3,lz4,lz5]
     refine wpAnyH_take (i:=4) (oi:=?oit4) (v:=?vt4) ?hit4 (by kernel_rfl) (by kernel_rfl) (by kernel_rfl) ?hQt4 (Or.inl ⟨?hwt4,?hyt4⟩) (by assumption) ?restt4
     case hit4=>(first | (simp only [lz0,lz1,lz2];rfl) | rfl)
     case hQt4=>exact fun _ _ _ h=>h
     case hwt4=>rfl
     case hyt4=>((intro w hSw;obtain ⟨hS1,hS2⟩:=hSw;go_simp);first | done | with_reducible rfl)
     try simp only [Act.put,lz3,lz4,lz5]
     refine wpAnyH_take (i:=5) (oi:=?oit5) (v:=?vt5) ?hit5 (by kernel_rfl) (by kernel_rfl) (by kernel_rfl) ?hQt5 (Or.inl ⟨?hwt5,?hyt5⟩) (by assumption) ?restt5
     case hit5=>(first | (simp only [lz0,lz1,lz2];rfl) | rfl)
     case hQt5=>exact fun _ _ _ h=>h
     case hwt5=>rfl
     case hyt5=>((intro w hSw;obtain ⟨hS1,hS2⟩:=hSw;go_simp);first | done | with_reducible rfl)
     try simp only [Act.put,lz3,lz4,lz5]
     refine wpAnyH_take (i:=6) (oi:=?oit6) (v:=?vt6) ?hit6 (by kernel_rfl) (by kernel_rfl) (by kernel_rfl) ?hQt6 (Or.inl ⟨?hwt6,?hyt6⟩) (by assumption) ?restt6
     case hit6=>(first | (simp only [lz0,lz1,lz2];rfl) | rfl)
     case hQt6=>exact fun _ _ _ h=>h
     case hwt6=>rfl
     case hyt6=>((intro w hSw;obtain ⟨hS1,hS2⟩:=hSw;go_simp);first | done | with_reducible rfl)
     try simp only [Act.put,lz3,lz4,lz5]
     refine wpAnyH_take (i:=7) (oi:=?oit7) (v:=?vt7) ?hit7 (by kernel_rfl) (by kernel_rfl) (by kernel_rfl) ?hQt7 (Or.inl ⟨?hwt7,?hyt7⟩) (by assumption) ?restt7
     case hit7=>(first | (simp only [lz0,lz1,lz2];rfl) | rfl)
     case hQt7=>exact fun _ _ _ h=>h
     case hwt7=>rfl
     case hyt7=>((intro w hSw;obtain ⟨hS1,hS2⟩:=hSw;go_simp);first | done | with_reducible rfl)
     try simp only [Act.put,lz3,lz4,lz5]
     refine wpAnyH_take (i:=8) (oi:=?oit8) (v:=?vt8) ?hit8 (by kernel_rfl) (by kernel_rfl) (by kernel_rfl) ?hQt8 (Or.inl ⟨?hwt8,?hyt8⟩) (by assumption) ?restt8
     case hit8=>(first | (simp only [lz0,lz1,lz2];rfl) | rfl)
     case hQt8=>exact fun _ _ _ h=>h
     case hwt8=>rfl
     case hyt8=>((intro w hSw;obtain ⟨hS1,hS2⟩:=hSw;go_simp);first | done | with_reducible rfl)
     try simp only [Act.put,lz3,lz4,lz5]
     refine wpAnyH_take (i:=9) (oi:=?oit9) (v:=?vt9) ?hit9 (by kernel_rfl) (by kernel_rfl) (by kernel_rfl) ?hQt9 (Or.inl ⟨?hwt9,?hyt9⟩) (by assumption) ?restt9
     case hit9=>(first | (simp only [lz0,lz1,lz2];rfl) | rfl)
     case hQt9=>exact fun _ _ _ h=>h
     case hwt9=>rfl
     case hyt9=>((intro w hSw;obtain ⟨hS1,hS2⟩:=hSw;go_simp);first | done | with_reducible rfl)
     try simp only [Act.put,lz3,lz4,lz5]
     obtain ⟨wd,hwd⟩:∃ z,z=wr.drew:=⟨_,rfl⟩
     have hbd:Below wr.heap.size wr wd:=by rw [hwd];exact (Below.refl _ wr).drew
     have HOD:=Lib.hid (ownsRow_block HO.out (w':=wd) fun g hg=>hbd.block g (HO.out.lt g hg).2)
     have hzd:wr.heap.size≤wd.heap.size:=by rw [hwd];exact Nat.le_refl _
     rw [← hwd]
     have hba:Below wd.heap.size wd (wd.alloc (.cells #[.int .i64 x1,.int .i64 x2] 64)):=(Below.refl _ wd).alloc (Nat.le_refl _) _
     have hSd:=And.intro (below_cells hbd a0) (below_cells hbd b0)
     have hSa:=And.intro (below_cells hba hSd.1) (below_cells hba hSd.2)
     have HBA:=Lib.hid (below_then (below_then HB.out hbd hbz) hba (by omega))
     clear hwd
     refine wpAnyH_ready (rs:=[10]) (by kernel_rfl) (by simp) ?_
     refine AllReadyH.cons (o:=?oc1) ?hcc1 ?stc1 AllReadyH.nil
     case hcc1=>(simp only [lz0,lz1,lz2];rfl)
     intro K hK
     go_simp
     refine hK.out _ _ hSa (fun _=>?_)
     clear hK K
     try simp only [Act.put,lz3,lz4,lz5]
     refine wpAnyH_ready (rs:=[11]) (by kernel_rfl) (by simp) ?_
     refine AllReadyH.cons (o:=?oc2) ?hcc2 ?stc2 AllReadyH.nil
     case hcc2=>(simp only [lz0,lz1,lz2];rfl)
     intro K hK
     refine step_append_recK _ rfl (.tmp 35) (.tmp 45) 60 rfl w4.heap.size 64 i1 _ 2 16 Tryz.underlying60 hi1 hy0 hy1 hy2 rfl (by decide) _ k _ rfl (World.ownsRow.alloc HOD.out _) ⟨wd.heap.size,0,none⟩ 1 1 (twoCells (x1,x2)) rfl rfl (two_new wd 64 (x1,x2)) (two_one _) (by unfold maxLen;omega) (by omega) (by simp;omega) ?_
     intro v5 w5 hown hgrow hloc
     have HO5:=Lib.hid hown
     have HB5:=Lib.hid (HBA.out.grown hgrow (by simp;omega) (fun g hg=>(HO.out.lt g hg).1))
     have hS5:w5.cell? (pP.add k)=some (.int .i64 x1)∧w5.cell? (pA.add k)=some (.int .i64 x2):=⟨below_cells HB5.out HPI4.out,below_cells HB5.out HAI4.out⟩
     clear hown hgrow hloc
     refine hK.out _ _ hS5 (fun _=>?_)
     clear hK K
     try simp only [Act.put,lz3,lz4,lz5]
     refine wpAnyH_take (i:=12) (oi:=?oiu12) (v:=?vu12) ?hiu12 (by kernel_rfl) (by kernel_rfl) (by kernel_rfl) ?hQu12 (Or.inl ⟨?hwu12,?hyu12⟩) (by assumption) ?restu12
     case hiu12=>(first | (simp only [lz0,lz1,lz2];rfl) | rfl)
     case hQu12=>exact fun _ _ _ h=>h
     case hwu12=>rfl
     case hyu12=>((intro w hSw;obtain ⟨hS1,hS2⟩:=hSw;go_simp);first | done | with_reducible rfl)
     try simp only [Act.put,lz3,lz4,lz5]
     refine wpAnyH_done (by kernel_rfl) ?_ _
     go_wp2
     go_roundw
     case rel=>
      refine ⟨k+1,by omega,by go_num,?_,HB5.out⟩
      rw [HTK.out,List.flatMap_append]
      simpa using HO5.out
     case measure=>simp [intOf];omega
    ·obtain rfl:k=n:=by omega
     have hlz:¬ ((k:Int) < (k:Int)):=by omega
     have hall:(P.zip A).take k=P.zip A:=List.take_of_length_le (by rw [HZL.out];exact Nat.le_refl _)
     rw [hall] at HO
     have HO':=Lib.hid HO.out
     clear hall HO
     go_wp2
     go_ret
     rw [HR.out]
     have hpa:PostAt wr (d,P.zip A) (d,.slice Av k cv) fun i=>w4.heap.size≤i:=by
      refine ⟨rfl,by unfold fits64;omega,Av,cv,by simp only;rw [HZL.out],by simp only;rw [HZL.out];exact rowCap_le HO'.out,?_,fun ad e _=>?_⟩
      ·simp only
       rw [HZL.out]
       exact PairsIn.ownTwo HO'.out HZL.out (by unfold maxLen;omega) (fun p hp=>⟨HPF.out _ (zip_in hp).1,HAF.out _ (zip_in hp).2⟩)
      ·have:=HO'.out.lt ad.block (by rw [e];rfl)
       exact ⟨this.2,this.1⟩
     have hbw:Below wr.heap.size wr (wr.alloc (.cells #[.int .i64 d,.slice Av k cv] 62)):=(Below.refl _ wr).alloc (Nat.le_refl _) _
     refine ⟨_,rfl,one_post hpa (fun _ _ _=>Nat.le_refl _) w.heap.size (by omega) (fun i hi=>by omega),(HP4.out.below HB.out).below hbw,kept_then HK4.out (Kept.below (below_then HB.out hbw hbz))⟩
  ·have d2:((P.length:Int) != (A.length:Int))=true:=by simp;omega
   have hr:=HR.out
   rw [if_pos (.inr hpa)] at hr
   have HR:=Lib.hid hr
   clear hr hp0 hpa hdh
   go_wp2_with fail
   refine (gFail_any w3 r s3 HP3.out).mono ?_
   rintro e w4 ⟨rfl,hp4,hk4⟩
   have HP4:=Lib.hid hp4
   have HK4:=Lib.hid (kept_then HK3.out hk4)
   clear hp4 hk4
   go_wp2
   go_ret
   rw [HR.out]
   exact ⟨_,rfl,PostsO.nil _ _,HP4.out,HK4.out⟩
theorem PostsO.keptR {w w':World} {r base:Nat} {v:Value} {L:List Pst} (h:PostsO w base v L) (hk:Kept (fun i=>i=r) w w') (hr:r < base):PostsO w' base v L:=h.keepIn (fun i h1 h2=>hk.block i h2 (fun e=>by omega)) hk.size
theorem gPart_any (w:World) (r:Nat) (s:PR) (h:IsPR w r s) (inside:PR→List Pst×PR) (g:Nat) (cap:Array Value) (eg:∀ args w,(callFunc g args).run Tryz.prog w=.ok (.enter g args) w)
  (hin:∀ w1 z,Kept (fun i=>i=r) w w1→IsPR w1 r z→Calls Tryz.prog g cap w1 (RetP r w1 (inside z))):
  Calls Tryz.prog 166 #[at0 r,.func (.func g) #[] cap] w (RetP r w (rPart inside s)):=by
 have hlt:=h.lt
 have HDOC:=Lib.hid (gDoc_any w r s h)
 have HIN:=Lib.hid hin
 obtain ⟨R,hR⟩:∃ R,R=rPart inside s:=⟨_,rfl⟩
 rw [← hR]
 unfold rPart rEnd at hR
 obtain ⟨D,hD⟩:∃ D,D=rDoc s:=⟨_,rfl⟩
 rw [← hD] at HDOC hR
 obtain ⟨d,s1⟩:=D
 simp only at HDOC hR
 have HR:=Lib.hid hR
 clear h hin hR hD
 unfold at0
 go_enter Tryz.func166,Tryz.ntmps166
 go_wp2_with fail
 refine HDOC.out.mono ?_
 rintro e w1 ⟨rfl,hp1,hk1⟩
 have HK1:=Lib.hid hk1
 have HP1:=Lib.hid hp1
 obtain ⟨A1,n1,c1,q1,q2,q3,q4,q5⟩:=hp1.at_
 have hl1:s1.left.length=n1:=by have:=q2.2.1.len;simpa using this
 have t0:=q1.cell 0
 simp at t0
 have HNUM:=Lib.hid (gNumber_any w1 r s1 hp1 n1)
 have hr:=HR.out
 rw [hl1] at hr
 have hkb:=rNum_le s1 n1
 obtain ⟨z,hz⟩:∃ z,z=rNum s1 n1:=⟨_,rfl⟩
 rw [← hz] at hr HNUM hkb
 obtain ⟨k,z2⟩:=z
 simp only at hr HNUM hkb
 have HR:=Lib.hid hr
 have hw1:IntKind.u64.wrap (n1:Int)=(n1:Int):=IntWalk.u64_in _ (by omega)
 clear hk1 hp1 q1 q2 q3 q5 hl1 hr hz
 go_wp2_with fail
 refine HNUM.out.mono ?_
 rintro e w2 ⟨rfl,hp2,hk2⟩
 have HK2:=Lib.hid (kept_then HK1.out hk2)
 have HINs:=Lib.hid (HIN.out w2 z2 (kept_then HK1.out hk2) hp2)
 obtain ⟨A2,n2,c2,q1,q2,q3,q4',q5⟩:=hp2.at_
 have hl2:z2.left.length=n2:=by have:=q2.2.1.len;simpa using this
 have t2:=q1.cell 0
 simp at t2
 have hz2:=hk2.size
 have hr:=HR.out
 rw [hl2] at hr
 obtain ⟨q,hq⟩:∃ q,q=inside z2:=⟨_,rfl⟩
 rw [← hq] at hr HINs
 have HR:=Lib.hid hr
 have hw2:IntKind.i64.wrap (k:Int)=(k:Int):=IntWalk.i64_in _ (by omega)
 have hw3:IntKind.i64.wrap ((n2:Int) - (k:Int))=(n2:Int) - (k:Int):=IntWalk.i64_in _ (by omega)
 obtain ⟨E,hE⟩:∃ E,E=(n2:Int) - (k:Int):=⟨_,rfl⟩
 have HE:=Lib.hid hE
 clear hk2 hp2 q1 q2 q3 q5 hl2 hr hq t0 hE
 go_wp2_with fail
 rw [← HE.out]
 refine HINs.out.mono ?_
 rintro e w3 ⟨v3,rfl,ho3,hp3,hk3⟩
 have HK3:=Lib.hid (kept_then HK2.out hk3)
 have HO3:=Lib.hid (ho3.le (base':=w.heap.size) (by have:=HK2.out.size;omega))
 have HP3:=Lib.hid hp3
 obtain ⟨A3,n3,c3,q1,q2,q3,q4',q5⟩:=hp3.at_
 have hl3:q.2.left.length=n3:=by have:=q2.2.1.len;simpa using this
 have t3:=q1.cell 0
 have t3':=q1.cell 1
 simp at t3 t3'
 have hr:=HR.out
 rw [hl3,← HE.out] at hr
 have HR:=Lib.hid hr
 obtain ⟨la,hla⟩:∃ la,la=q.2.last:=⟨_,rfl⟩
 rw [← hla] at t3' HR
 clear ho3 hk3 hp3 q1 q2 q3 q5 hl3 hr t2 hla
 by_cases hf:la≠d∨(n3:Int)≠E
 ·have hr:=HR.out
  rw [if_pos hf] at hr
  have HR:=Lib.hid hr
  have HF:=Lib.hid hf
  clear hr hf hw3
  have fin:∀ w4,IsPR w4 r q.2.fail∧Kept (fun i=>i=r) w3 w4→RetP r w R (.returned v3) w4:=fun w4 h=>by
   obtain ⟨h1,h2⟩:=h
   rw [HR.out]
   exact ⟨v3,rfl,HO3.out.keptR h2 hlt,h1,kept_then HK3.out h2⟩
  have FIN:=Lib.hid fin
  clear fin
  by_cases hd:la=d
  ·have d1:(la != d)=false:=by simpa using hd
   have d2:((n3:Int) != E)=true:=by
    rcases HF.out with h1 | h1
    ·exact absurd hd h1
    ·simpa using h1
   clear hd
   go_wp2_with fail
   refine (gFail_any w3 r q.2 HP3.out).mono ?_
   rintro e w4 ⟨rfl,h4⟩
   have H4:=Lib.hid h4
   clear h4
   go_wp2
   go_ret
   exact FIN.out _ H4.out
  ·have d1:(la != d)=true:=by simpa using hd
   clear hd
   go_wp2_with fail
   refine (gFail_any w3 r q.2 HP3.out).mono ?_
   rintro e w4 ⟨rfl,h4⟩
   have H4:=Lib.hid h4
   clear h4
   go_wp2
   go_ret
   exact FIN.out _ H4.out
 ·have hr:=HR.out
  rw [if_neg hf] at hr
  have HR:=Lib.hid hr
  have d1:(la != d)=false:=by
   rw [bne_eq_false_iff_eq]
   rcases Decidable.em (la=d) with h1 | h1
   ·exact h1
   ·exact absurd (.inl h1) hf
  have d2:((n3:Int) != E)=false:=by
   rw [bne_eq_false_iff_eq]
   rcases Decidable.em ((n3:Int)=E) with h1 | h1
   ·exact h1
   ·exact absurd (.inr h1) hf
  clear hr hf hw3
  go_wp2
  go_ret
  rw [HR.out]
  exact ⟨v3,rfl,HO3.out,HP3.out,HK3.out⟩
theorem RetP.drew {r:Nat} {w w':World} {x:List Pst×PR} {e:Ending} (h:RetP r w.drew x e w'):RetP r w x e w':=by
 obtain ⟨v,h1,h2,h3,h4⟩:=h
 exact ⟨v,h1,h2,h3,⟨h4.os,h4.tape,h4.output,h4.size,h4.block⟩⟩
theorem Blk.keptR {w w':World} {r g:Nat} {t:TypeId} {cs:Array Value} (h:Blk w g t cs) (hk:Kept (fun i=>i=r) w w') (hg:g≠r):Blk w' g t cs:=h.kept hk hg
theorem gInP_any {w:World} {r ga ge g7 g8 g9 a e fo fa:Nat} {co ca:Array Value} {A:Option Addr} {k c:Nat} {x:List Pst×PR} (ha:Blk w ga 3 #[.int .i64 a]) (he:Blk w ge 3 #[.int .i64 e]) (h7:Blk w g7 84 #[.func (.func fo) #[] co]) (h8:Blk w g8 246 #[.func (.func fa) #[] ca]) (h9:Blk w g9 52 #[.slice A k c]) (hk:0 < k)
  (hin:Calls Tryz.prog 168 #[.int .i64 a,.int .i64 e,.func (.func fo) #[] co,.func (.func fa) #[] ca,.slice (cutAddr A 1 c) (k - 1) (c - 1)] w.drew (RetP r w x)):
  Calls Tryz.prog 199 #[at0 ga,at0 ge,at0 g7,at0 g8,at0 g9] w (RetP r w x):=by
 have a0:=ha.drew.cell 0
 have e0:=he.drew.cell 0
 have f0:=h7.drew.cell 0
 have r0:=h8.drew.cell 0
 have s0:=h9.drew.cell 0
 simp at a0 e0 f0 r0 s0
 have hsl:∀ w,(Instr.slice 52 (.slice A k c) (some (.int .i64 1)) none none).run Tryz.prog w=.ok (.slice (cutAddr A 1 c) (k - 1) (c - 1)) w:=fun w=>by
  have:=ints_from w A k c 1 (by omega)
  simpa using this
 have HIN:=Lib.hid hin
 clear ha he h7 h8 h9 hin
 unfold at0
 go_enter Tryz.func199,Tryz.ntmps199
 go_wp2_with fail
 go_still_tail 6,(by kernel_rfl)
 change wpList _ _ _ _ _ w.drew
 go_wp2_with fail
 refine HIN.out.mono ?_
 rintro e w2 ⟨v,rfl,ho,hp,hk⟩
 have HO:=Lib.hid ho
 have HP:=Lib.hid hp
 have HK:=Lib.hid hk
 clear ho hp hk
 go_wp2
 go_ret
 exact ⟨v,rfl,HO.out,HP.out,HK.out⟩
theorem gPartsPS (r:Nat) (wB:World) (hrB:r < wB.heap.size) (fo fa:Nat) (co ca:Array Value) (ega:∀ args w,(callFunc fa args).run Tryz.prog w=.ok (.enter fa args) w) (ad:Addr) (har:ad.block≠r) (k c s:Nat) (hk:0 < k) (hs0:0 < s) (hs:s≤16) (hcell:wB.cell? ad=some (.int .i64 s))
  (f t:Nat) (ht:t≤4096) (P:Nat→Prop) (X:Nat→PR→List Pst×PR) (hP0:P f) (hPs:∀ a,P a→a < t→P (a+s)) (hXl:∀ q z,f+q * s < t+s→(runP X f s q z).1.length≤1000000)
  (hcl:∀ (w:World) (z:PR) (a ga ge g7 g8 g9:Nat),Kept (fun i=>i=r) wB w→IsPR w r z→P a→a < t→wB.heap.size≤ga→wB.heap.size≤ge→wB.heap.size≤g7→wB.heap.size≤g8→wB.heap.size≤g9→Blk w ga 3 #[.int .i64 a]→Blk w ge 3 #[.int .i64 (min (a+s) t:Nat)]→Blk w g7 84 #[.func (.func fo) #[] co]→Blk w g8 246 #[.func (.func fa) #[] ca]→Blk w g9 52 #[.slice (some ad) k c]→
   Calls Tryz.prog fa (#[.int .i64 a,.int .i64 (min (a+s) t:Nat),.func (.func 199) #[] #[at0 ga,at0 ge,at0 g7,at0 g8,at0 g9]]++ca) w (RetP r w (X a z)))
  (K:Nat) (hK1:t≤f+K * s) (hK2:f+K * s < t+s)
  (w:World) (hw:Kept (fun i=>i=r) wB w) (z:PR) (hz:IsPR w r z):
  Calls Tryz.prog 168 #[.int .i64 f,.int .i64 t,.func (.func fo) #[] co,.func (.func fa) #[] ca,.slice (some ad) k c] w (RetP r w (runP X f s K z)):=by
 obtain ⟨i2,hi2,hx0,hx1,hx2⟩:=info_parts postInfo
 have HC:=Lib.hid hcell
 have HW:=Lib.hid hw
 have HCL:=Lib.hid hcl
 have HPS:=Lib.hid hPs
 have HXL:=Lib.hid hXl
 have HP0:=Lib.hid hP0
 have HZ:=Lib.hid hz
 have hws:=hw.size
 have d0:((k:Int)==0)=false:=beq_eq_false_iff_ne.2 (by omega)
 have HADR:=Lib.hid har
 have HK:Hid (∀ q,f+q * s < t+s→t≤f+q * s→q=K):=Lib.hid fun q h1 h2=>by
  rcases Nat.lt_trichotomy q K with h3 | h3 | h3
  ·have:(q+1) * s≤K * s:=Nat.mul_le_mul_right s h3
   rw [Nat.succ_mul] at this
   omega
  ·exact h3
  ·have:(K+1) * s≤q * s:=Nat.mul_le_mul_right s h3
   rw [Nat.succ_mul] at this
   omega
 have HKB:Hid (∀ q,f+q * s < t+s→f+q * s < t→f+(q+1) * s < t+s):=Lib.hid fun q _ h2=>by rw [Nat.succ_mul];omega
 have HMUL:Hid (∀ q,(q+1) * s=q * s+s):=Lib.hid fun q=>Nat.succ_mul q s
 have HFK:Hid (f+0 * s < t+s):=Lib.hid (by
  rcases Nat.eq_zero_or_pos K with h | h
  ·rw [h] at hK2;exact hK2
  ·rw [Nat.zero_mul]
   have:1 * s≤K * s:=Nat.mul_le_mul_right s h
   omega)
 clear hcell hw hcl hPs hXl hP0 hz har hK1 hK2
 go_enter Tryz.func168,Tryz.ntmps168
 go_wp2
 go_loopw [11,13] (fun v p wr=>∃ (q a g:Nat) (y:List Pst) (zz:PR),p=at0 g∧a=f+q * s∧P a∧a < t+s∧(y,zz)=runP X f s q z∧PostsO wr (w.heap.size+3) v y∧IsPR wr r zz∧(∀ i,v.ownBlock=some i→i≠g)∧w.heap.size+3≤g∧Blk wr g 3 #[.int .i64 a]∧Kept (fun i=>i=r) w wr∧Blk wr w.heap.size 84 #[.func (.func fo) #[] co]∧Blk wr (w.heap.size+1) 246 #[.func (.func fa) #[] ca]∧Blk wr (w.heap.size+1+1) 52 #[.slice (some ad) k c]) (fun _ p wr=>t+16 - cellNat wr p)
 case atStart=>
  have b1:=Blk.new w 84 #[.func (.func fo) #[] co]
  have b2:=Blk.new (w.alloc (.cells #[.func (.func fo) #[] co] 84)) 246 #[.func (.func fa) #[] ca]
  have b3:=Blk.new ((w.alloc (.cells #[.func (.func fo) #[] co] 84)).alloc (.cells #[.func (.func fa) #[] ca] 246)) 52 #[.slice (some ad) k c]
  have b4:=Blk.new (((w.alloc (.cells #[.func (.func fo) #[] co] 84)).alloc (.cells #[.func (.func fa) #[] ca] 246)).alloc (.cells #[.slice (some ad) k c] 52)) 3 #[.int .i64 (f:Int)]
  simp only [World.size_alloc] at b2 b3 b4
  have hbw:Below w.heap.size w ((((w.alloc (.cells #[.func (.func fo) #[] co] 84)).alloc (.cells #[.func (.func fa) #[] ca] 246)).alloc (.cells #[.slice (some ad) k c] 52)).alloc (.cells #[.int .i64 (f:Int)] 3)):=((((Below.refl _ w).alloc (Nat.le_refl _) _).alloc (by simp) _).alloc (by simp;omega) _).alloc (by simp;omega) _
  have hfk:=HFK.out
  exact ⟨0,f,w.heap.size+1+1+1,[],z,rfl,by rw [Nat.zero_mul];rfl,HP0.out,by rw [Nat.zero_mul] at hfk;exact hfk,rfl,PostsO.nil _ _,HZ.out.below hbw,(fun i e=>by cases e),by omega,b4,Kept.below hbw,((b1.alloc _).alloc _).alloc _,(b2.alloc _).alloc _,b3.alloc _⟩
 case round=>
  obtain ⟨q,a,g,y,zz,rfl,ha,hp,hat,hy,hO,hZZ,hne,hg,hG,hB,h7,h8,h9⟩:=hrel
  have HA:=Lib.hid ha
  have HPA:=Lib.hid hp
  have HY:=Lib.hid hy
  have HO:=Lib.hid hO
  have HZZ:=Lib.hid hZZ
  have HNE:=Lib.hid hne
  have HGK:=Lib.hid hG
  have HB:=Lib.hid hB
  have H7:=Lib.hid h7
  have H8:=Lib.hid h8
  have H9:=Lib.hid h9
  have c0:=hG.cell 0
  have c9:=h9.cell 0
  have cs:wr.cell? ad=some (.int .i64 s):=((kept_then HW.out hB).cell (World.block_lt_of_cell? wB ad HC.out) HADR.out).trans HC.out
  simp at c0 c9
  have hXl:=HXL.out q z (by rw [← ha];exact hat)
  rw [← hy] at hXl
  simp only at hXl
  clear ha hp hy hO hZZ hne hG hB h7 h8 h9
  obtain ⟨R0,hR0,hR1,hR2⟩:=HO.out
  obtain ⟨Av,cv,hv⟩:=own_slice hR1
  subst hv
  unfold at0
  rcases Nat.lt_or_ge a t with hlt | hge
  ·have hlt':(a:Int) < (t:Int):=by omega
   obtain ⟨E,hE⟩:∃ E,E=min (a+s) t:=⟨_,rfl⟩
   have hmin:∀ w ty,(Builtin.min_ #[3,3] ty #[.int .i64 ((a:Int)+(s:Int)),.int .i64 (t:Int)]).run Tryz.prog w=.ok (.int .i64 (E:Int)) w:=fun w ty=>by
    rw [Lib.run_min_ints,show min ((a:Int)+(s:Int)) (t:Int)=(E:Int) by omega]
   have hw1:IntKind.i64.wrap ((a:Int)+(s:Int))=(a:Int)+(s:Int):=IntWalk.i64_in _ (by omega)
   have k0:(0:Int) < (k:Int):=by omega
   have a0:ad.add 0=ad:=by simp [Addr.add]
   have HE:=Lib.hid hE
   clear hE
   have u0:(wr.alloc (.cells #[.int .i64 0] 3)).cell? ⟨g,0,none⟩=some (.int .i64 a):=(HGK.out.alloc _).cell 0
   have u9:(wr.alloc (.cells #[.int .i64 0] 3)).cell? ⟨w.heap.size+1+1,0,none⟩=some (.slice (some ad) k c):=(H9.out.alloc _).cell 0
   have us:(wr.alloc (.cells #[.int .i64 0] 3)).cell? ad=some (.int .i64 s):=below_cells ((Below.refl _ wr).alloc (Nat.le_refl _) _) cs
   clear hR0 hR1 hR2
   go_wp2_with fail
   go_region
   obtain ⟨W1,hW1⟩:∃ W1,W1=(wr.alloc (.cells #[.int .i64 (E:Int)] 3)).drew:=⟨_,rfl⟩
   rw [← hW1]
   have hb1:Below wr.heap.size wr W1:=by rw [hW1];exact ((Below.refl _ wr).alloc (Nat.le_refl _) _).drew
   have HEK:Hid (Blk W1 wr.heap.size 3 #[.int .i64 (E:Int)]):=Lib.hid (by rw [hW1];exact (Blk.new _ _ _).drew)
   have HB1:=Lib.hid (kept_then HB.out (Kept.below hb1))
   have HG1:=Lib.hid (HGK.out.below hb1 HGK.out.lt)
   have H71:=Lib.hid (H7.out.below hb1 H7.out.lt)
   have H81:=Lib.hid (H8.out.below hb1 H8.out.lt)
   have H91:=Lib.hid (H9.out.below hb1 H9.out.lt)
   have HO1:=Lib.hid (HO.out.below hb1)
   have HZ1:=Lib.hid (HZZ.out.below hb1)
   have HW1:=Lib.hid (kept_then HW.out HB1.out)
   have hsz1:W1.heap.size=wr.heap.size+1:=by rw [hW1];simp
   have hbz:=HB.out.size
   have k0:=HG1.out.cell 0
   have k7:=H71.out.cell 0
   have k8:=H81.out.cell 0
   have ke:=HEK.out.cell 0
   simp at k0 k7 k8 ke
   have hx:=HCL.out W1 zz a g wr.heap.size w.heap.size (w.heap.size+1) (w.heap.size+1+1) HW1.out HZ1.out HPA.out hlt (by omega) (by omega) (by omega) (by omega) (by omega) HG1.out (by rw [← HE.out];exact HEK.out) H71.out H81.out H91.out
   rw [← HE.out] at hx
   unfold at0 at hx
   have HX:=Lib.hid hx
   have hel:=HXL.out (q+1) z (by have:=HMUL.out q;have:=HA.out;omega)
   have hrn:runP X f s (q+1) z=(y++(X a zz).1,(X a zz).2):=by
    have h1:=HY.out
    rw [runP,← h1,← HA.out]
   rw [hrn] at hel
   simp only [List.length_append] at hel
   have HRN:=Lib.hid hrn
   obtain ⟨x,hxe⟩:∃ x,x=X a zz:=⟨_,rfl⟩
   rw [← hxe] at HX HRN hel
   have hps:=HPS.out a HPA.out hlt
   have HPN:=Lib.hid hps
   obtain ⟨x1,x2⟩:=x
   simp only at hel HRN
   clear hW1 hb1 u0 u9 us hx hrn hxe hps HO
   go_wp2_with fail
   refine HX.out.mono ?_
   rintro e w2 ⟨v2,rfl,ho2,hp2,hk2⟩
   simp only at ho2 hp2
   have hr1:r < w.heap.size:=by omega
   have HO2:=Lib.hid (HO1.out.keptR hk2 (by omega))
   have HZ2:=Lib.hid hp2
   have HB2:=Lib.hid (kept_then HB1.out hk2)
   have HG2:=Lib.hid (HG1.out.keptR hk2 (by omega))
   have H72:=Lib.hid (H71.out.keptR hk2 (by omega))
   have H82:=Lib.hid (H81.out.keptR hk2 (by omega))
   have H92:=Lib.hid (H91.out.keptR hk2 (by omega))
   have hsz2:=hk2.size
   have hgz:=HGK.out.lt
   obtain ⟨R0,hR0,hR1,hR2⟩:=HO2.out
   obtain ⟨S0,hS0,hS1,hS2⟩:=ho2
   obtain ⟨A2,c2,rfl⟩:=own_slice hS1
   have hoc:=own_cells hS1
   have hdo:=docs_one hS0 hS2
   have HR0:=Lib.hid hR0
   have HR1:=Lib.hid hR1
   have HR2:=Lib.hid hR2
   have HS0:=Lib.hid hS0
   have HS1:=Lib.hid hS1
   have HS2:=Lib.hid hS2
   have HOC:=Lib.hid hoc
   have HDO:=Lib.hid hdo
   have HAB:Hid (∀ g',(Value.slice Av y.length cv).ownBlock=some g'→g' < W1.heap.size):=Lib.hid fun g' e=>by
    obtain ⟨T0,-,hT1,-⟩:=HO1.out
    exact (hT1.lt g' e).2
   clear hp2 hk2 hR0 hR1 hR2 hS0 hS1 hS2 hoc hdo k0 k7 k8 ke c0 c9 cs
   go_wp2_with (at_builtin;refine wpList_append_srcN _ rfl (.tmp 46) (.tmp 51) 56 rfl (w.heap.size+3) 62 i2 _ 2 32 Tryz.underlying56 hi2 hx0 hx1 hx2 rfl (by decide) _ y.length _ rfl HR1.out A2 x1.length c2 _ rfl HS1.out.1 HOC.out.1 HOC.out.2 HDO.out (by unfold maxLen;omega) (by omega) (by omega) ?_;intro v3 w3 hown3 hgrow3 hloc3;obtain ⟨A3,c3,hv3⟩:=own_slice hown3;subst hv3;have HO3:=Lib.hid (PostsO.cat (base2:=W1.heap.size) (by omega) HAB.out HR0.out HS0.out HR2.out HS2.out hown3 hgrow3 hloc3);have HZ3:Hid (IsPR w3 r x2):=Lib.hid (HZ2.out.grown hgrow3 (fun i e=>by have:=(HR1.out.lt i e).1;omega));have HB3:=Lib.hid (HB2.out.grown hgrow3 (fun i e=>.inr (by have:=(HR1.out.lt i e).1;omega)));have HG3:=Lib.hid (HG2.out.grown hgrow3 (fun e=>HNE.out g e.symm rfl));have H73:=Lib.hid (H72.out.grown hgrow3 (fun e=>by have:=(HR1.out.lt _ e.symm).1;omega));have H83:=Lib.hid (H82.out.grown hgrow3 (fun e=>by have:=(HR1.out.lt _ e.symm).1;omega));have H93:=Lib.hid (H92.out.grown hgrow3 (fun e=>by have:=(HR1.out.lt _ e.symm).1;omega));have g0:w3.cell? ⟨g,0,none⟩=some (.int .i64 (a:Int)):=HG3.out.cell 0;have u9:(w3.alloc (.cells #[.int .i64 (a:Int)] 3)).cell? ⟨w.heap.size+1+1,0,none⟩=some (.slice (some ad) k c):=(H93.out.alloc _).cell 0;have us:(w3.alloc (.cells #[.int .i64 (a:Int)] 3)).cell? ad=some (.int .i64 (s:Int)):=((kept_then HW.out (HB3.out.alloc _)).cell (World.block_lt_of_cell? wB ad HC.out) HADR.out).trans HC.out;have hsz3:=HB3.out.size;have HL3:Hid (∀ i,(Value.slice A3 (y.length+x1.length) c3).ownBlock=some i→i < w3.heap.size):=Lib.hid (fun i e=>(hown3.lt i e).2);clear hown3 hgrow3 hloc3)
   go_region
   go_wp2
   go_roundw
   case rel=>
    have hg3:=HG3.out.lt
    have hbn:Below w3.heap.size w3 (w3.alloc (.cells #[.int .i64 ((a:Int)+(s:Int))] 3)).drew:=((Below.refl _ w3).alloc (Nat.le_refl _) _).drew
    refine ⟨q+1,a+s,w3.heap.size,y++x1,x2,rfl,by have:=HMUL.out q;have:=HA.out;omega,HPN.out,by omega,HRN.out.symm,HO3.out.below hbn,HZ3.out.below hbn,?_,by omega,?_,kept_then HB3.out (Kept.below hbn),(H73.out.alloc _).drew,(H83.out.alloc _).drew,(H93.out.alloc _).drew⟩
    ·intro i e
     have:=HL3.out i e
     omega
    ·have h1:=Blk.new w3 3 #[.int .i64 ((a:Int)+(s:Int))]
     rw [show ((a+s:Nat):Int)=(a:Int)+(s:Int) by omega]
     exact h1.drew
   case measure=>
    have h1:=cellNat_at ((Blk.new w3 3 #[.int .i64 ((a:Int)+(s:Int))]).drew)
    have h2:=cellNat_at HGK.out
    unfold at0 at h1 h2
    show t+16 - cellNat _ _ < t+16 - cellNat _ _
    rw [h1,h2]
    omega
  ·have hz:¬ ((a:Int) < (t:Int)):=by omega
   have hfin:(y,zz)=runP X f s K z:=by rw [HY.out,HK.out q (by rw [← HA.out];exact hat) (by rw [← HA.out];exact hge)]
   have HF:=Lib.hid hfin
   clear hfin hR0 hR1 hR2
   go_wp2
   go_ret
   rw [← HF.out]
   exact ⟨_,rfl,HO.out.le (by omega),HZZ.out,HB.out⟩
theorem runP_len {X:Nat→PR→List Pst×PR} {m:Nat} (h:∀ a z,(X a z).1.length≤m) (f s:Nat):∀ q z,(runP X f s q z).1.length≤q * m
 | 0,z=>by simp [runP]
 | q+1,z=>by
  have h1:=runP_len h f s q z
  have h2:=h (f+q * s) (runP X f s q z).2
  rw [runP,Nat.succ_mul]
  simp only [List.length_append]
  omega
theorem rPost_len (z:PR):(rPost z).1.length≤1:=by
 unfold rPost rSpots
 split <;> simp
theorem run0_len (a t:Nat) (z:PR):(run0 a t z).1.length≤t - a:=by
 have:=runP_len (X:=fun _=>rPost) (m:=1) (fun _ z=>rPost_len z) a 1 (t - a) z
 unfold run0
 omega
theorem run1_len (a t:Nat) (ht:t≤a+16) (z:PR):(run1 a t z).1.length≤16:=by
 have:=runP_len (X:=fun i=>rPart (run0 i (min (i+4) t))) (m:=4) (fun i z=>by
  have:=run0_len i (min (i+4) t) (rNum (rDoc z).2 (rDoc z).2.left.length).2
  show (run0 i (min (i+4) t) _).1.length≤4
  omega) a 4 ((t - a+3) / 4) z
 unfold run1
 omega
theorem runP_snoc (X:Nat→PR→List Pst×PR) (f s q:Nat) (z zz:PR) (y:List Pst) (h:(y,zz)=runP X f s q z):runP X f s (q+1) z=(y++(X (f+q * s) zz).1,(X (f+q * s) zz).2):=by rw [runP,← h]
theorem gPartsP0 (r:Nat) (wB:World) (hrB:r < wB.heap.size) (fo fa:Nat) (co ca:Array Value) (ego:∀ args w,(callFunc fo args).run Tryz.prog w=.ok (.enter fo args) w) (A:Option Addr) (c:Nat)
  (f t:Nat) (hft:f≤t) (ht:t≤4096)
  (hon:∀ (w:World) (z:PR) (i:Nat),Kept (fun i=>i=r) wB w→IsPR w r z→f≤i→i < t→Calls Tryz.prog fo (#[.int .i64 i]++co) w (RetP r w (rPost z)))
  (w:World) (hw:Kept (fun i=>i=r) wB w) (z:PR) (hz:IsPR w r z):
  Calls Tryz.prog 168 #[.int .i64 f,.int .i64 t,.func (.func fo) #[] co,.func (.func fa) #[] ca,.slice A 0 c] w (RetP r w (run0 f t z)):=by
 obtain ⟨i2,hi2,hx0,hx1,hx2⟩:=info_parts postInfo
 have HW:=Lib.hid hw
 have HON:=Lib.hid hon
 have HZ:=Lib.hid hz
 have hws:=hw.size
 clear hw hon hz
 go_enter Tryz.func168,Tryz.ntmps168
 go_wp2
 go_loopw [11,12] (fun v i wr=>∃ (k:Nat) (y:List Pst) (zz:PR),f+k≤t∧i=.int .i64 (f+k:Nat)∧(y,zz)=runP (fun _=>rPost) f 1 k z∧PostsO wr (w.heap.size+3) v y∧IsPR wr r zz∧Kept (fun i=>i=r) w wr∧w.heap.size+3≤wr.heap.size∧Blk wr w.heap.size 84 #[.func (.func fo) #[] co]) (fun _ i _=>t - (intOf i).toNat)
 case atStart=>
  have b1:=Blk.new w 84 #[.func (.func fo) #[] co]
  have hbw:Below w.heap.size w (((w.alloc (.cells #[.func (.func fo) #[] co] 84)).alloc (.cells #[.func (.func fa) #[] ca] 246)).alloc (.cells #[.slice A 0 c] 52)):=(((Below.refl _ w).alloc (Nat.le_refl _) _).alloc (by simp) _).alloc (by simp;omega) _
  exact ⟨0,[],z,by omega,rfl,rfl,PostsO.nil _ _,HZ.out.below hbw,Kept.below hbw,by simp,(b1.alloc _).alloc _⟩
 case round=>
  obtain ⟨k,y,zz,hk,rfl,hy,hO,hZZ,hB,hsz,h7⟩:=hrel
  have HY:=Lib.hid hy
  have HO:=Lib.hid hO
  have HZZ:=Lib.hid hZZ
  have HB:=Lib.hid hB
  have H7:=Lib.hid h7
  have c7:=h7.cell 0
  simp at c7
  have hyl:=runP_len (X:=fun _=>rPost) (m:=1) (fun _ z=>rPost_len z) f 1 k z
  rw [← hy] at hyl
  simp only at hyl
  have hy4:y.length≤4096:=by omega
  clear hy hO hZZ hB h7 hyl
  obtain ⟨R0,hR0,hR1,hR2⟩:=HO.out
  obtain ⟨Av,cv,hv⟩:=own_slice hR1
  subst hv
  clear hR0 hR1 hR2
  obtain ⟨i,hi'⟩:∃ i,i=f+k:=⟨_,rfl⟩
  rw [← hi'] at hk ⊢
  rcases Nat.lt_or_ge i t with hlt | hge
  ·have hlt':(i:Int) < (t:Int):=by omega
   have hw5:IntKind.i64.wrap ((i:Int)+1)=(i:Int)+1:=IntWalk.i64_in _ (by omega)
   have hx:=HON.out wr zz i (kept_then HW.out HB.out) HZZ.out (by omega) hlt
   have hrn:=runP_snoc (fun _=>rPost) f 1 k z zz y HY.out
   have hxl:=rPost_len zz
   obtain ⟨x,hxe⟩:∃ x,x=rPost zz:=⟨_,rfl⟩
   rw [← hxe] at hx hrn hxl
   obtain ⟨x1,x2⟩:=x
   simp only at hrn hxl
   have HX:=Lib.hid hx
   have HRN:=Lib.hid hrn
   have HI:=Lib.hid hi'
   clear hx hrn hxe hi'
   go_wp2_with fail
   refine HX.out.mono ?_
   rintro e w2 ⟨v2,rfl,ho2,hp2,hk2⟩
   simp only at ho2 hp2
   have HO2:=Lib.hid (HO.out.keptR hk2 (by omega))
   have HZ2:=Lib.hid hp2
   have HB2:=Lib.hid (kept_then HB.out hk2)
   have H72:=Lib.hid (H7.out.keptR hk2 (by omega))
   have hsz2:=hk2.size
   obtain ⟨R0,hR0,hR1,hR2⟩:=HO2.out
   obtain ⟨S0,hS0,hS1,hS2⟩:=ho2
   obtain ⟨A2,c2,rfl⟩:=own_slice hS1
   have hoc:=own_cells hS1
   have hdo:=docs_one hS0 hS2
   have HR0:=Lib.hid hR0
   have HR1:=Lib.hid hR1
   have HR2:=Lib.hid hR2
   have HS0:=Lib.hid hS0
   have HS1:=Lib.hid hS1
   have HS2:=Lib.hid hS2
   have HOC:=Lib.hid hoc
   have HDO:=Lib.hid hdo
   have HAB:Hid (∀ g',(Value.slice Av y.length cv).ownBlock=some g'→g' < wr.heap.size):=Lib.hid fun g' e=>by
    obtain ⟨T0,-,hT1,-⟩:=HO.out
    exact (hT1.lt g' e).2
   clear hp2 hk2 hR0 hR1 hR2 hS0 hS1 hS2 hoc hdo c7 HO
   go_wp2_with (at_builtin;refine wpList_append_srcN _ rfl (.tmp 24) (.tmp 27) 56 rfl (w.heap.size+3) 62 i2 _ 2 32 Tryz.underlying56 hi2 hx0 hx1 hx2 rfl (by decide) _ y.length _ rfl HR1.out A2 x1.length c2 _ rfl HS1.out.1 HOC.out.1 HOC.out.2 HDO.out (by unfold maxLen;omega) (by omega) (by omega) ?_;intro v3 w3 hown3 hgrow3 hloc3;have HO3:=Lib.hid (PostsO.cat (base2:=wr.heap.size) (by omega) HAB.out HR0.out HS0.out HR2.out HS2.out hown3 hgrow3 hloc3);have HZ3:Hid (IsPR w3 r x2):=Lib.hid (HZ2.out.grown hgrow3 (fun i e=>by have:=(HR1.out.lt i e).1;omega));have HB3:=Lib.hid (HB2.out.grown hgrow3 (fun i e=>.inr (by have:=(HR1.out.lt i e).1;omega)));have H73:=Lib.hid (H72.out.grown hgrow3 (fun e=>by have:=(HR1.out.lt _ e.symm).1;omega));have hsz3:=hgrow3.size;clear hown3 hgrow3 hloc3)
   go_roundw
   case rel=>
    exact ⟨k+1,y++x1,x2,by have:=HI.out;omega,by have:=HI.out;go_num,HRN.out.symm,HO3.out,HZ3.out,HB3.out,by omega,H73.out⟩
   case measure=>simp [intOf];omega
  ·have hz:¬ ((i:Int) < (t:Int)):=by omega
   have hfin:run0 f t z=(y,zz):=by unfold run0;rw [show t - f=k by omega,HY.out]
   have HF:=Lib.hid hfin
   clear hfin hi'
   go_wp2
   go_ret
   rw [HF.out]
   exact ⟨_,rfl,HO.out.le (by omega),HZZ.out,HB.out⟩
theorem gOneP_any (w:World) (r b:Nat) (z:PR) (h:IsPR w r z) (hb:Blk w b 241 #[at0 r]) (i:Int):Calls Tryz.prog 163 (#[.int .i64 i]++#[at0 b]) w (RetP r w (rPost z)):=by
 have HC:=Lib.hid (gPost_any w r z h)
 have c0:=hb.cell 0
 simp at c0
 obtain ⟨R,hR⟩:∃ R,R=rPost z:=⟨_,rfl⟩
 rw [← hR] at HC ⊢
 clear h hb hR
 unfold at0 at *
 simp only [List.append_toArray,List.cons_append,List.nil_append]
 go_enter Tryz.func163,Tryz.ntmps163
 go_wp2_with fail
 refine HC.out.mono ?_
 rintro e w2 ⟨v,rfl,ho,hp,hk⟩
 have HO:=Lib.hid ho
 have HP:=Lib.hid hp
 have HK:=Lib.hid hk
 clear ho hp hk
 go_wp2
 go_ret
 exact ⟨v,rfl,HO.out,HP.out,HK.out⟩
theorem gAroundP_any (w:World) (r b:Nat) (z:PR) (h:IsPR w r z) (hb:Blk w b 241 #[at0 r]) (f t:Int) (inside:PR→List Pst×PR) (cap:Array Value)
  (hin:∀ w1 z,Kept (fun i=>i=r) w w1→IsPR w1 r z→Calls Tryz.prog 199 cap w1 (RetP r w1 (inside z))):
  Calls Tryz.prog 165 (#[.int .i64 f,.int .i64 t,.func (.func 199) #[] cap]++#[at0 b]) w (RetP r w (rPart inside z)):=by
 have HC:=Lib.hid (gPart_any w r z h inside 199 cap (enters_of Tryz.func199 (by kernel_rfl) rfl) hin)
 have c0:=hb.cell 0
 simp at c0
 obtain ⟨R,hR⟩:∃ R,R=rPart inside z:=⟨_,rfl⟩
 rw [← hR] at HC ⊢
 clear h hb hR hin
 unfold at0 at *
 simp only [List.append_toArray,List.cons_append,List.nil_append]
 go_enter Tryz.func165,Tryz.ntmps165
 go_wp2_with fail
 refine HC.out.mono ?_
 rintro e w2 ⟨v,rfl,ho,hp,hk⟩
 have HO:=Lib.hid ho
 have HP:=Lib.hid hp
 have HK:=Lib.hid hk
 clear ho hp hk
 go_wp2
 go_ret
 exact ⟨v,rfl,HO.out,HP.out,HK.out⟩
theorem gLevelP1 (r:Nat) (wB:World) (hrB:r < wB.heap.size) (b:Nat) (hbr:b≠r) (hb:Blk wB b 241 #[at0 r]) (ad:Addr) (har:ad.block≠r) (hcell:wB.cell? ad=some (.int .i64 (4:Nat)))
  (f t:Nat) (hft:f≤t) (ht16:t≤f+16) (ht:t≤4096) (w:World) (hw:Kept (fun i=>i=r) wB w) (z:PR) (hz:IsPR w r z):
  Calls Tryz.prog 168 #[.int .i64 f,.int .i64 t,.func (.func 163) #[] #[at0 b],.func (.func 165) #[] #[at0 b],.slice (some ad) 1 1] w (RetP r w (run1 f t z)):=by
 refine gPartsPS r wB hrB 163 165 #[at0 b] #[at0 b] (enters_of Tryz.func165 (by kernel_rfl) rfl) ad har 1 1 4 (by omega) (by omega) (by omega) hcell f t ht (fun _=>True) (fun i=>rPart (run0 i (min (i+4) t))) trivial (fun _ _ _=>trivial) (fun q z hq=>?_) ?_ ((t - f+3) / 4) (by omega) (by omega) w hw z hz
 ·have:=runP_len (X:=fun i=>rPart (run0 i (min (i+4) t))) (m:=4) (fun i z=>by
   have:=run0_len i (min (i+4) t) (rNum (rDoc z).2 (rDoc z).2.left.length).2
   show (run0 i (min (i+4) t) _).1.length≤4
   omega) f 4 q z
  omega
 ·intro w1 z1 a ga ge g7 g8 g9 hw1 hz1 _ hat la le l7 l8 l9 ba be b7 b8 b9
  obtain ⟨E,hE⟩:∃ E,E=min (a+4) t:=⟨_,rfl⟩
  rw [← hE] at be ⊢
  refine gAroundP_any w1 r b z1 hz1 (hb.keptR hw1 hbr) a E _ _ fun w2 z2 hk2 hz2=>?_
  refine gInP_any (ba.keptR hk2 (by omega)) (be.keptR hk2 (by omega)) (b7.keptR hk2 (by omega)) (b8.keptR hk2 (by omega)) (b9.keptR hk2 (by omega)) (by omega) ?_
  have hkd:Kept (fun i=>i=r) wB w2.drew:=(kept_then hw1 hk2).drew
  exact (gPartsP0 r wB hrB 163 165 #[at0 b] #[at0 b] (enters_of Tryz.func163 (by kernel_rfl) rfl) _ _ a E (by omega) (by omega) (fun w3 z3 i hk3 hz3 _ _=>gOneP_any w3 r b z3 hz3 (hb.keptR hk3 hbr) i) w2.drew hkd z2 (hz2.below (below_drewN (Below.refl _ w2) 1))).mono fun _ _ h=>h.drew
theorem gLevelP2 (r:Nat) (wB:World) (hrB:r < wB.heap.size) (b:Nat) (hbr:b≠r) (hb:Blk wB b 241 #[at0 r]) (gs:Nat) (har:gs≠r) (hs:Blk wB gs 3 #[.int .i64 16,.int .i64 4])
  (t:Nat) (ht:t≤4096) (w:World) (hw:Kept (fun i=>i=r) wB w) (z:PR) (hz:IsPR w r z):
  Calls Tryz.prog 168 #[.int .i64 (0:Nat),.int .i64 t,.func (.func 163) #[] #[at0 b],.func (.func 165) #[] #[at0 b],.slice (some ⟨gs,0,none⟩) 2 2] w (RetP r w (run2 0 t z)):=by
 refine gPartsPS r wB hrB 163 165 #[at0 b] #[at0 b] (enters_of Tryz.func165 (by kernel_rfl) rfl) ⟨gs,0,none⟩ har 2 2 16 (by omega) (by omega) (by omega) (hs.cell 0) 0 t ht (fun _=>True) (fun i=>rPart (run1 i (min (i+16) t))) trivial (fun _ _ _=>trivial) (fun q z hq=>?_) ?_ ((t - 0+15) / 16) (by omega) (by omega) w hw z hz
 ·have:=runP_len (X:=fun i=>rPart (run1 i (min (i+16) t))) (m:=16) (fun i z=>by
   have:=run1_len i (min (i+16) t) (by omega) (rNum (rDoc z).2 (rDoc z).2.left.length).2
   show (run1 i (min (i+16) t) _).1.length≤16
   omega) 0 16 q z
  omega
 ·intro w1 z1 a ga ge g7 g8 g9 hw1 hz1 _ hat la le l7 l8 l9 ba be b7 b8 b9
  obtain ⟨E,hE⟩:∃ E,E=min (a+16) t:=⟨_,rfl⟩
  rw [← hE] at be ⊢
  refine gAroundP_any w1 r b z1 hz1 (hb.keptR hw1 hbr) a E _ _ fun w2 z2 hk2 hz2=>?_
  refine gInP_any (ba.keptR hk2 (by omega)) (be.keptR hk2 (by omega)) (b7.keptR hk2 (by omega)) (b8.keptR hk2 (by omega)) (b9.keptR hk2 (by omega)) (by omega) ?_
  have hkd:Kept (fun i=>i=r) wB w2.drew:=(kept_then hw1 hk2).drew
  rw [cutAddr_one _ _ (by omega),show (⟨gs,0,none⟩:Addr).add 1=⟨gs,1,none⟩ by simp [Addr.add]]
  exact (gLevelP1 r wB hrB b hbr hb ⟨gs,1,none⟩ har (hs.cell 1) a E (by omega) (by omega) (by omega) w2.drew hkd z2 (hz2.below (below_drewN (Below.refl _ w2) 1))).mono fun _ _ h=>h.drew
theorem gGet_any (w:World) (A:Option Addr) (n c:Nat) (b:Nm) (hb:BytesIn w A n b) (hc:n≤c) (hn:n≤1099511627776):Calls Tryz.prog 121 #[.slice A n c] w (GetPOut w (getP b)):=by
 have hbl:b.length=n:=by have:=hb.2.1.len;simpa using this
 rw [← getM_is]
 obtain ⟨G,hG⟩:∃ G,G=getM b:=⟨_,rfl⟩
 rw [← hG]
 unfold getM rAll at hG
 obtain ⟨w1,hw1⟩:∃ w1,w1=(w.alloc (.cells #[.slice A n c,.int .i64 (-1),.bool false] 243)).alloc (.cells #[at0 w.heap.size] 241):=⟨_,rfl⟩
 have hb1:Below w.heap.size w w1:=by rw [hw1];exact ((Below.refl _ w).alloc (Nat.le_refl _) _).alloc (by simp) _
 have bR:Blk w1 w.heap.size 243 #[.slice A n c,.int .i64 (-1),.bool false]:=by rw [hw1];exact (Blk.new _ _ _).alloc _
 have bP:Blk w1 (w.heap.size+1) 241 #[at0 w.heap.size]:=by
  have:=Blk.new (w.alloc (.cells #[.slice A n c,.int .i64 (-1),.bool false] 243)) 241 #[at0 w.heap.size]
  rw [World.size_alloc] at this
  rw [hw1]
  exact this
 have HP1:Hid (IsPR w1 w.heap.size (rStart b)):=Lib.hid ⟨⟨A,n,c,bR,hb.below hb1,hc,hn,hb.2.2⟩,by unfold rStart;simp,by unfold rStart;simp⟩
 have HB1:=Lib.hid hb1
 have HBP:=Lib.hid bP
 have hs1:w1.heap.size=w.heap.size+2:=by rw [hw1];simp
 have c1:=bP.cell 0
 simp at c1
 have HNUM:=Lib.hid (gNumber_any w1 w.heap.size (rStart b) HP1.out 4096)
 have hkb:=rNum_le (rStart b) 4096
 obtain ⟨z,hz⟩:∃ z,z=rNum (rStart b) 4096:=⟨_,rfl⟩
 rw [← hz] at hG HNUM hkb
 obtain ⟨m,z1⟩:=z
 simp only at hG HNUM hkb
 have HG:=Lib.hid hG
 have HS1:=Lib.hid hs1
 have HW1:=Lib.hid hw1
 have hwm:IntKind.i64.wrap (m:Int)=(m:Int):=IntWalk.i64_in _ (by omega)
 clear hb hbl hG hw1 hb1 bR bP hz hs1
 unfold at0 at *
 go_enter Tryz.func121,Tryz.ntmps121
 go_wp2_with fail
 rw [← HW1.out]
 refine HNUM.out.mono ?_
 rintro e w2 ⟨rfl,hp2,hk2⟩
 have HK2:=Lib.hid hk2
 have hz2:=hk2.size
 have hb2:=HBP.out.keptR hk2 (by omega)
 have HB2:=Lib.hid hb2
 have bs:=Blk.new w2 3 #[.int .i64 16,.int .i64 4]
 have hbs:Below w2.heap.size w2 (w2.alloc (.cells #[.int .i64 16,.int .i64 4] 3)):=(Below.refl _ w2).alloc (Nat.le_refl _) _
 have hsz:=HS1.out
 have hlv:=gLevelP2 w.heap.size (w2.alloc (.cells #[.int .i64 16,.int .i64 4] 3)) (by simp;omega) (w.heap.size+1) (by omega) (hb2.below hbs hb2.lt) w2.heap.size (by omega) bs m (by omega) _ (Kept.refl _ _) z1 (hp2.below hbs)
 unfold at0 at hlv
 obtain ⟨Q,hQ⟩:∃ Q,Q=run2 0 m z1:=⟨_,rfl⟩
 have hg:=HG.out
 rw [← hQ] at hlv hg
 have HG:=Lib.hid hg
 have HLV:=Lib.hid hlv
 have HKs:=Lib.hid (kept_then hk2 (Kept.below hbs))
 have HBs:=Lib.hid (hb2.below hbs hb2.lt)
 clear hk2 hp2 hb2 bs hbs hlv hQ hg c1 HNUM hsz
 go_wp2_with fail
 refine HLV.out.mono ?_
 rintro e w3 ⟨v3,rfl,ho3,hp3,hk3⟩
 have HK3:=Lib.hid (kept_then HKs.out hk3)
 have hb3:=HBs.out.keptR hk3 (by omega)
 have hsz:=HS1.out
 have HO3:Hid (PostsO w3 w.heap.size v3 Q.1):=Lib.hid (ho3.le (by simp;omega))
 obtain ⟨A3,n3,c3,q1,q2,q3,q4,q5⟩:=hp3.at_
 have hl3:Q.2.left.length=n3:=by have:=q2.2.1.len;simpa using this
 have t0:=q1.cell 0
 have t2:=q1.cell 2
 have t1:=hb3.cell 0
 simp at t0 t1 t2
 have hg:=HG.out
 rw [hl3] at hg
 obtain ⟨bd,hbd⟩:∃ bd,bd=Q.2.bad:=⟨_,rfl⟩
 rw [← hbd] at hg t2
 have HG:=Lib.hid hg
 have HBF:Hid (Below w.heap.size w w3):=Lib.hid ⟨HK3.out.os.trans HB1.out.os,HK3.out.tape.trans HB1.out.tape,HK3.out.output.trans HB1.out.output,Nat.le_trans HB1.out.size HK3.out.size,fun i hi=>(HK3.out.block i (by omega) (by omega)).trans (HB1.out.block i hi)⟩
 clear ho3 hp3 hk3 hb3 q1 q2 q3 q5 hl3 hg hbd hsz
 cases bd with
 | true=>
  have hg:=HG.out
  rw [if_pos (.inl rfl)] at hg
  have HG:=Lib.hid hg
  clear hg
  go_wp2
  go_ret2
  rw [HG.out]
  exact ⟨_,rfl,PostsO.nil _ _,HBF.out⟩
 | false=>
  by_cases h0:0 < n3
  ·have hg:=HG.out
   rw [if_pos (.inr h0)] at hg
   have HG:=Lib.hid hg
   have d1:decide ((0:Int) < (n3:Int))=true:=decide_eq_true (by omega)
   have d1':(0:Int) < (n3:Int):=by omega
   clear hg
   go_wp2
   go_ret2
   rw [HG.out]
   exact ⟨_,rfl,PostsO.nil _ _,HBF.out⟩
  ·have hg:=HG.out
   rw [if_neg (by simp;omega)] at hg
   have HG:=Lib.hid hg
   have d1:decide ((0:Int) < (n3:Int))=false:=decide_eq_false (by omega)
   have d1':¬ (0:Int) < (n3:Int):=by omega
   clear hg
   go_wp2
   go_ret2
   rw [HG.out]
   exact ⟨v3,rfl,HO3.out,HBF.out⟩
end Go.Proofs.YthcjikpabpgpfaaGreat
