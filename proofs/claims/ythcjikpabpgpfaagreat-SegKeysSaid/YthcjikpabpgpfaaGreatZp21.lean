import Derived.Test.YthcjikpabpgpfaaGreatZp0
import Derived.Test.YthcjikpabpgpfaaGreatZp20
import Derived.Test.YthcjikpabpgpfaaGreatZp16
import Derived.Test.YthcjikpabpgpfaaGreatZp7
import Derived.Test.YthcjikpabpgpfaaGreatZp13
import Derived.Shelf.Abstract
set_option linter.unusedSimpArgs false
set_option maxHeartbeats 16000000
set_option maxRecDepth 100000
namespace Go.Proofs.YthcjikpabpgpfaaGreat
open Go.RowKit Go.Maps Go.WideMaps
theorem partCells:(Tryz.prog.info? 270).map (·.size)=some 2:=by kernel_rfl
theorem cHead_any {w:World} {F:Nat→Prop} {b:Nat} {po:List Pst} {lf rest:Nm} {la P N r:Int} (h:CuRaw w F b po lf la P N r) {u v:Nat} (hla:-1≤la) (hla2:la≤4294967296) (hu:u < 2 ^ 40) (hv:v < 2 ^ 40) (hl:lf=putL u++(putL v++rest)) {t:Int} (ht:la+1+(u:Int)=t):
  Calls Tryz.prog 193 #[at0 b] w fun e w'=>e=.returned (.agg #[.int .i64 t,.int .i64 v])∧CuRaw w' F b po rest la P N r∧Kept (fun i=>i=b) w w':=by
 have hbl:=h.lt
 have hFl:=h.low.2
 obtain ⟨W1,hW1⟩:∃ W1,W1=w.alloc (.cells #[.int .i64 0,.int .i64 0] 270):=⟨_,rfl⟩
 have hb1:Below w.heap.size w W1:=by rw [hW1];exact (Below.refl _ w).alloc (Nat.le_refl _) _
 have hT1:Blk W1 w.heap.size 270 #[.int .i64 0,.int .i64 0]:=by rw [hW1];exact Blk.new _ _ _
 have h1:=h.below hb1
 have hs1:W1.heap.size=w.heap.size+1:=by rw [hW1];simp
 have HB1:=Lib.hid hb1
 have HT1:=Lib.hid hT1
 have HNUM:=Lib.hid (cNum_any (h1.below ((Below.refl _ W1).drew)) (v:=u) (rest:=putL v++rest) (by omega) hl)
 have c2:W1.cell? ⟨b,2,none⟩=some (.int .i64 la):=by
  obtain ⟨A,n,c,L,m,k,q1,q2⟩:=h1
  have:=q1.cell 2
  simpa using this
 have HW1:=Lib.hid hW1
 have hw1:IntKind.i64.wrap (la+1)=la+1:=IntWalk.i64_in _ (by omega)
 have hw3:IntKind.i64.wrap (la+1+(u:Int))=la+1+(u:Int):=IntWalk.i64_in _ (by omega)
 have HT:=Lib.hid ht
 clear h h1 hW1 hb1 hT1 hl ht
 unfold at0
 go_enter Tryz.func193,Tryz.ntmps193
 go_wp2_with fail
 rw [← HW1.out]
 refine wp_region_held_drew (S:=fun w'=>w'.cell? ⟨b,2,none⟩=some (.int .i64 la)) (by kernel_rfl) ?_ (fun hHeld=>?_)
 ·exact c2
 refine wpAnyH_take (i:=0) (oi:=?oit0) (v:=?vt0) ?hit0 (by kernel_rfl) (by kernel_rfl) (by kernel_rfl) ?hQt0 (Or.inl ⟨?hwt0,?hyt0⟩) (by assumption) ?restt0
 case hit0=>(first | (simp only [lz0,lz1,lz2];rfl) | rfl)
 case hQt0=>exact fun _ _ _ h=>h
 case hwt0=>rfl
 case hyt0=>((intro w hSw;go_simp);first | done | with_reducible rfl)
 try simp only [Act.put,lz3,lz4,lz5]
 refine wpAnyH_take (i:=1) (oi:=?oit1) (v:=?vt1) ?hit1 (by kernel_rfl) (by kernel_rfl) (by kernel_rfl) ?hQt1 (Or.inl ⟨?hwt1,?hyt1⟩) (by assumption) ?restt1
 case hit1=>(first | (simp only [lz0,lz1,lz2];rfl) | rfl)
 case hQt1=>exact fun _ _ _ h=>h
 case hwt1=>rfl
 case hyt1=>((intro w hSw;go_simp);first | done | with_reducible rfl)
 try simp only [Act.put,lz3,lz4,lz5]
 refine wpAnyH_take (i:=2) (oi:=?oit2) (v:=?vt2) ?hit2 (by kernel_rfl) (by kernel_rfl) (by kernel_rfl) ?hQt2 (Or.inl ⟨?hwt2,?hyt2⟩) (by assumption) ?restt2
 case hit2=>(first | (simp only [lz0,lz1,lz2];rfl) | rfl)
 case hQt2=>exact fun _ _ _ h=>h
 case hwt2=>rfl
 case hyt2=>((intro w hSw;go_simp);first | done | with_reducible rfl)
 try simp only [Act.put,lz3,lz4,lz5]
 refine wpAnyH_take (i:=3) (oi:=?oit3) (v:=?vt3) ?hit3 (by kernel_rfl) (by kernel_rfl) (by kernel_rfl) ?hQt3 (Or.inl ⟨?hwt3,?hyt3⟩) (by assumption) ?restt3
 case hit3=>(first | (simp only [lz0,lz1,lz2];rfl) | rfl)
 case hQt3=>exact fun _ _ _ h=>h
 case hwt3=>rfl
 case hyt3=>((intro w hSw;go_simp);first | done | with_reducible rfl)
 try simp only [Act.put,lz3,lz4,lz5]
 refine wpAnyH_take (i:=4) (oi:=?oit4) (v:=?vt4) ?hit4 (by kernel_rfl) (by kernel_rfl) (by kernel_rfl) ?hQt4 (Or.inl ⟨?hwt4,?hyt4⟩) (by assumption) ?restt4
 case hit4=>(first | (simp only [lz0,lz1,lz2];rfl) | rfl)
 case hQt4=>exact fun _ _ _ h=>h
 case hwt4=>rfl
 case hyt4=>((intro w hSw;go_simp);first | done | with_reducible rfl)
 try simp only [Act.put,lz3,lz4,lz5]
 refine wpAnyH_take (i:=5) (oi:=?oit5) (v:=?vt5) ?hit5 (by kernel_rfl) (by kernel_rfl) (by kernel_rfl) ?hQt5 (Or.inl ⟨?hwt5,?hyt5⟩) (by assumption) ?restt5
 case hit5=>(first | (simp only [lz0,lz1,lz2];rfl) | rfl)
 case hQt5=>exact fun _ _ _ h=>h
 case hwt5=>rfl
 case hyt5=>((intro w hSw;go_simp);first | done | with_reducible rfl)
 try simp only [Act.put,lz3,lz4,lz5]
 refine wpAnyH_ready (rs:=[6]) (by kernel_rfl) (by simp) ?_
 refine AllReadyH.cons (o:=?oc1) ?hcc1 ?stc1 AllReadyH.nil
 case hcc1=>(simp only [lz0,lz1,lz2];rfl)
 intro K hK
 go_simp
 refine HNUM.out.mono ?_
 rintro e w2 ⟨rfl,hr2,hk2⟩
 have hS2:w2.cell? ⟨b,2,none⟩=some (.int .i64 la):=by
  obtain ⟨A,n,c,L,m,k,q1,q2⟩:=hr2
  have:=q1.cell 2
  simpa using this
 have HR2:=Lib.hid hr2
 have HK2:Hid (Kept (fun i=>i=b) W1 w2):=Lib.hid ⟨hk2.os,hk2.tape,hk2.output,hk2.size,hk2.block⟩
 have hs2:W1.heap.size≤w2.heap.size:=hk2.size
 clear hr2 hk2
 go_wp2_with fail
 refine hK.out _ _ hS2 (fun _=>?_)
 clear hK K
 refine wpAnyH_take (i:=7) (oi:=?oiu7) (v:=?vu7) ?hiu7 (by kernel_rfl) (by kernel_rfl) (by kernel_rfl) ?hQu7 (Or.inl ⟨?hwu7,?hyu7⟩) (by assumption) ?restu7
 case hiu7=>(first | (simp only [lz0,lz1,lz2];rfl) | rfl)
 case hQu7=>exact fun _ _ _ h=>h
 case hwu7=>rfl
 case hyu7=>((intro w hSw;go_simp);first | done | with_reducible rfl)
 try simp only [Act.put,lz3,lz4,lz5]
 refine wpAnyH_take (i:=8) (oi:=?oiu8) (v:=?vu8) ?hiu8 (by kernel_rfl) (by kernel_rfl) (by kernel_rfl) ?hQu8 (Or.inl ⟨?hwu8,?hyu8⟩) (by assumption) ?restu8
 case hiu8=>(first | (simp only [lz0,lz1,lz2];rfl) | rfl)
 case hQu8=>exact fun _ _ _ h=>h
 case hwu8=>rfl
 case hyu8=>((intro w hSw;go_simp);first | done | with_reducible rfl)
 try simp only [Act.put,lz3,lz4,lz5]
 refine wpAnyH_done (by kernel_rfl) ?_ _
 have HT2:=Lib.hid (HT1.out.kept HK2.out (by omega))
 rw [HT.out]
 clear hw1 hw3
 have HNUM2:=Lib.hid (cNum_any HR2.out (v:=v) (rest:=rest) (by omega) rfl)
 go_wp2_with fail
 refine HNUM2.out.mono ?_
 rintro e w3 ⟨rfl,hr3,hk3⟩
 have HR3:=Lib.hid hr3
 have HK3:=Lib.hid (cu_then (cu_then (Kept.below HB1.out) HK2.out) hk3)
 have hs3:=hk3.size
 have HT3:=Lib.hid (HT2.out.kept hk3 (by omega))
 clear hr3 hk3
 have z0:=HT3.out.frozen 0
 have z1:=HT3.out.frozen 1
 have y0:=HT3.out.cell 0
 have y1:=HT3.out.cell 1
 simp at y0 y1
 have HT4:=Lib.hid ((HT3.out.set_ 0 (.int .i64 t)).set_ 1 (.int .i64 v))
 obtain ⟨W4,hW4⟩:∃ W4,W4=(w3.setCell ⟨w.heap.size,0,none⟩ (.int .i64 t)).setCell ⟨w.heap.size,1,none⟩ (.int .i64 v):=⟨_,rfl⟩
 rw [← hW4] at HT4
 have hk4:Kept (fun i=>i=w.heap.size) w3 W4:=by rw [hW4];exact cu_set (cu_set (Kept.refl _ w3) 0 _) 1 _
 have HK4:=Lib.hid hk4
 have HR4:Hid (CuRaw W4 F b po rest la P N r):=Lib.hid (HR3.out.all (fun i hi=>?hR) (by rw [hW4,size_setCell',size_setCell'];exact Nat.le_refl _))
 case hR=>
  have:i < w.heap.size:=hFl i hi
  rw [hW4,heap_setCell_other _ _ _ (by simp only;omega),heap_setCell_other _ _ _ (by simp only;omega)]
 have HW4:=Lib.hid hW4
 clear hk4 hW4
 go_wp2
 rw [← HW4.out]
 refine bodyPost_ret (results_cell_row rfl _ _ w.heap.size 270 #[.int .i64 t,.int .i64 v] (0,0) _ rfl ?_ Tryz.underlying270 rfl partCells) rfl ?_
 ·have:=HT4.out
  unfold Blk at this
  simpa using this
 ·exact ⟨rfl,HR4.out,HK3.out.trans HK4.out (fun i hi e=>by omega)⟩
theorem cPass_any {w:World} {F:Nat→Prop} {b:Nat} {po:List Pst} {lf:Nm} {la P N r:Int} (h:CuRaw w F b po lf la P N r) {t:Int} {v:Nat} {mm:Int} (hv:v≤lf.length) (h1:0≤P) (h2:P≤10000) (h3:0≤mm) (h4:mm≤16):
  Calls Tryz.prog 194 #[at0 b,.agg #[.int .i64 t,.int .i64 v],.int .i64 mm] w fun e w'=>e=.returned (.tuple #[])∧CuRaw w' F b po (lf.drop v) t (P+mm) N r∧Kept (fun i=>i=b) w w':=by
 have hbl:=h.lt
 have hFl:=h.low.2
 obtain ⟨W1,hW1⟩:∃ W1,W1=w.alloc (.cells #[.int .i64 t,.int .i64 v] 270):=⟨_,rfl⟩
 have hb1:Below w.heap.size w W1:=by rw [hW1];exact (Below.refl _ w).alloc (Nat.le_refl _) _
 have hT1:Blk W1 w.heap.size 270 #[.int .i64 t,.int .i64 v]:=by rw [hW1];exact Blk.new _ _ _
 obtain ⟨A,n,c,L,m,k,q1,q2⟩:=h.below hb1
 have hln:lf.length=m:=by have:=q2.lf.1.2.1.len;simpa using this
 rw [hln] at hv
 have hk:=q2.room.1
 have HB1:=Lib.hid hb1
 have HQ2:=Lib.hid (q2.left hv)
 have HQ1:=Lib.hid q1
 have c1:=q1.cell 1
 have c2:=q1.cell 2
 have c3:=q1.cell 3
 have z1:=q1.frozen 1
 have z2:=q1.frozen 2
 have z3:=q1.frozen 3
 have t0:=hT1.cell 0
 have t1:=hT1.cell 1
 simp only [lz0,lz1,lz2] at c1 c2 c3 t0 t1
 have hsl:=fun w=>slice_from w L m k v hv
 have hw:IntKind.i64.wrap (P+mm)=P+mm:=IntWalk.i64_in _ (by omega)
 have HW1:=Lib.hid hW1
 clear h q1 q2 hb1 hT1 hW1 hFl
 unfold at0
 go_enter Tryz.func194,Tryz.ntmps194
 go_wp2_with fail
 rw [← HW1.out]
 go_region
 obtain ⟨W2,hW2⟩:∃ W2,W2=(W1.setCell ⟨b,1,none⟩ (.slice (cutAddr L v k) (m - v) (k - v))).drew:=⟨_,rfl⟩
 have HB2:Hid (Blk W2 b 145 #[.slice A n c,.slice (cutAddr L v k) (m - v) (k - v),.int .i64 la,.int .i64 P,.int .i64 N,.int .i64 r]):=Lib.hid (by rw [hW2];simpa using (HQ1.out.set_ 1 (.slice (cutAddr L v k) (m - v) (k - v))).drew)
 have HK2:Hid (Kept (fun i=>i=b) W1 W2):=Lib.hid (by rw [hW2];exact (cu_set (Kept.refl _ W1) 1 _).drew)
 have HI2:=Lib.hid (HQ2.out.kept HK2.out)
 have t0':W2.cell? ⟨w.heap.size,0,none⟩=some (.int .i64 t):=by rw [hW2];exact (World.cell?_of_block (heap_setCell_other W1 _ _ (by simp only;omega))).trans t0
 have c2':=HB2.out.cell 2
 have c3':=HB2.out.cell 3
 have z2':=HB2.out.frozen 2
 have z3':=HB2.out.frozen 3
 simp only [lz0,lz1,lz2] at c2' c3'
 rw [← hW2]
 clear hW2 t0 t1 c1 c2 c3 z1 z2 z3
 go_wp2
 go_end0
 obtain ⟨W3,hW3⟩:∃ W3,W3=(W2.setCell ⟨b,2,none⟩ (.int .i64 t)).setCell ⟨b,3,none⟩ (.int .i64 (P+mm)):=⟨_,rfl⟩
 rw [← hW3]
 have hk3:Kept (fun i=>i=b) W2 W3:=by rw [hW3];exact cu_set (cu_set (Kept.refl _ W2) 2 _) 3 _
 have hb3:=(HB2.out.set_ 2 (.int .i64 t)).set_ 3 (.int .i64 (P+mm))
 rw [← hW3] at hb3
 exact ⟨rfl,⟨A,n,c,_,_,_,by simpa using hb3,HI2.out.kept hk3⟩,cu_then (cu_then (Kept.below HB1.out) HK2.out) hk3⟩
theorem cBegins_any {w:World} {F:Nat→Prop} {b:Nat} {po:List Pst} {lf:Nm} {la N r:Int} {P:Nat} (h:CuRaw w F b po lf la P N r):
  Calls Tryz.prog 192 #[at0 b] w fun e w'=>∃ A n c l,e=.returned (.slice A n c)∧IntsIn w' A n l∧Below w.heap.size w w'∧l=(if P % 16=0 then [16,4] else [4])∧∀ ad,A=some ad→w.heap.size≤ad.block:=by
 obtain ⟨A,n,c,L,m,k,q1,q2⟩:=h
 have c3:=q1.cell 3
 simp only [lz0,lz1,lz2] at c3
 clear q1 q2
 have hb:=(Below.refl w.heap.size w).alloc (Nat.le_refl _)
 have hr:(P:Int).tmod 16=((P % 16:Nat):Int):=(Int.ofNat_tmod P 16).symm
 unfold at0
 by_cases h16:P % 16=0
 ·rw [if_pos h16]
  have hr0:(P:Int).tmod 16=0:=by rw [hr,h16];rfl
  go_enter Tryz.func192,Tryz.ntmps192
  go_wp2
  go_ret
  refine ⟨_,_,_,[16,4],rfl,?_,hb _,rfl,fun ad e=>by cases e;exact Nat.le_refl _⟩
  refine ⟨by unfold maxLen;omega,⟨rfl,fun ad e j x hx=>?_,fun e=>by cases e⟩,by simp,fun ad e _=>by cases e;simp⟩
  cases e
  match j with
  | 0=>simp [i64V] at hx;subst hx;simp [Addr.add]
  | 1=>simp [i64V] at hx;subst hx;simp [Addr.add]
  | j+2=>simp at hx
 ·rw [if_neg h16]
  have hr1:(((P % 16:Nat):Int)==0)=false:=beq_eq_false_iff_ne.2 (by omega)
  go_enter Tryz.func192,Tryz.ntmps192
  go_wp2
  go_ret
  exact ⟨_,_,_,[4],rfl,⟨by unfold maxLen;omega,one_int_src w 3 4,by simp,fun ad e _=>by cases e;simp⟩,hb _,rfl,fun ad e=>by cases e;exact Nat.le_refl _⟩
theorem cSpots_any (w:World) (AP AA:Option Addr) (n cP cA:Nat) (P A:List Int) (hP:IntsIn w AP n P) (hA:IntsIn w AA n A) (hn4:n≤4096):
  Calls Tryz.prog 218 #[.slice AP n cP,.slice AA n cA] w fun e w'=>∃ v,e=.returned v∧w'.ownsRow w.heap.size 64 2 v n ((P.zip A).flatMap twoCells)∧Below w.heap.size w w':=by
 obtain ⟨i1,hi1,hy0,hy1,hy2⟩:=info_parts spotInfo
 have HPI:=Lib.hid hP
 have HAI:=Lib.hid hA
 have hzl:(P.zip A).length=n:=by rw [List.length_zip,hP.len,hA.len];omega
 have HZL:=Lib.hid hzl
 clear hP hA hzl
 go_enter Tryz.func218,Tryz.ntmps218
 go_wp2_with fail
 go_loopw [5,9] (fun v i wr=>∃ k:Nat,k≤n∧i=.int .i64 k∧wr.ownsRow w.heap.size 64 2 v k (((P.zip A).take k).flatMap twoCells)∧Below w.heap.size w wr) (fun _ i _=>n - (intOf i).toNat)
 case atStart=>exact ⟨0,by omega,rfl,⟨rfl,.inl ⟨rfl,rfl⟩⟩,Below.refl _ _⟩
 case round=>
  obtain ⟨k,hk,rfl,hO,hB⟩:=hrel
  have HO:=Lib.hid hO
  have HB:=Lib.hid hB
  have hbz:=hB.size
  clear hO hB
  obtain ⟨Av,cv,hv⟩:=own_slice HO.out
  subst hv
  rcases Nat.lt_or_ge k n with hlt2 | hge
  ·have hlt':(k:Int) < (n:Int):=by omega
   have p0:(0:Int)≤(k:Int):=by omega
   have hw5:IntKind.i64.wrap ((k:Int)+1)=(k:Int)+1:=IntWalk.i64_in _ (by omega)
   obtain ⟨pP,x1,rfl,hx1,a0,-,-⟩:=(HPI.out.below HB.out).at k hlt2
   obtain ⟨pA,x2,rfl,hx2,b0,-,-⟩:=(HAI.out.below HB.out).at k hlt2
   obtain ⟨_,y1,e1,hy,g0,-,-⟩:=HPI.out.at k hlt2
   obtain ⟨_,y2,e2,hy',g1,-,-⟩:=HAI.out.at k hlt2
   obtain rfl:=Option.some.inj e1
   obtain rfl:=Option.some.inj e2
   obtain rfl:=Option.some.inj (hx1.symm.trans hy)
   obtain rfl:=Option.some.inj (hx2.symm.trans hy')
   have HPI4:=Lib.hid g0
   have HAI4:=Lib.hid g1
   clear e1 e2 hy hy' g0 g1
   have HTK:Hid ((P.zip A).take (k+1)=(P.zip A).take k++[(x1,x2)]):=Lib.hid (by
    rw [List.take_add_one,(List.getElem?_zip_eq_some (z:=(x1,x2))).2 ⟨hx1,hx2⟩]
    rfl)
   clear hx1 hx2
   go_wp2_with fail
   refine wp_region_held_drew (S:=fun w'=>w'.cell? (pP.add k)=some (.int .i64 x1)∧w'.cell? (pA.add k)=some (.int .i64 x2)) (by kernel_rfl) ?_ (fun hHeld=>?_)
   ·exact ⟨a0,b0⟩
   refine wpAnyH_take (i:=0) (oi:=?oit0) (v:=?vt0) ?hit0 (by kernel_rfl) (by kernel_rfl) (by kernel_rfl) ?hQt0 (Or.inl ⟨?hwt0,?hyt0⟩) (by assumption) ?restt0
   case hit0=>(first | (simp only [lz0,lz1,lz2];rfl) | rfl)
   case hQt0=>exact fun _ _ _ h=>h
   case hwt0=>rfl
   case hyt0=>((intro w hSw;obtain ⟨hS1,hS2⟩:=hSw;go_simp);first | done | with_reducible rfl)
   try simp only [Act.put,lz3,lz4,lz5]
   refine wpAnyH_take (i:=1) (oi:=?oit1) (v:=?vt1) ?hit1 (by kernel_rfl) (by kernel_rfl) (by kernel_rfl) ?hQt1 (Or.inl ⟨?hwt1,?hyt1⟩) (by assumption) ?restt1
   case hit1=>(first | (simp only [lz0,lz1,lz2];rfl) | rfl)
   case hQt1=>exact fun _ _ _ h=>h
   case hwt1=>rfl
   case hyt1=>((intro w hSw;obtain ⟨hS1,hS2⟩:=hSw;go_simp);first | done | with_reducible rfl)
   try simp only [Act.put,lz3,lz4,lz5]
   refine wpAnyH_take (i:=2) (oi:=?oit2) (v:=?vt2) ?hit2 (by kernel_rfl) (by kernel_rfl) (by kernel_rfl) ?hQt2 (Or.inl ⟨?hwt2,?hyt2⟩) (by assumption) ?restt2
   case hit2=>(first | (simp only [lz0,lz1,lz2];rfl) | rfl)
   case hQt2=>exact fun _ _ _ h=>h
   case hwt2=>rfl
   case hyt2=>((intro w hSw;obtain ⟨hS1,hS2⟩:=hSw;go_simp);first | done | with_reducible rfl)
   try simp only [Act.put,lz3,lz4,lz5]
   refine wpAnyH_take (i:=3) (oi:=?oit3) (v:=?vt3) ?hit3 (by kernel_rfl) (by kernel_rfl) (by kernel_rfl) ?hQt3 (Or.inl ⟨?hwt3,?hyt3⟩) (by assumption) ?restt3
   case hit3=>(first | (simp only [lz0,lz1,lz2];rfl) | rfl)
   case hQt3=>exact fun _ _ _ h=>h
   case hwt3=>rfl
   case hyt3=>((intro w hSw;obtain ⟨hS1,hS2⟩:=hSw;go_simp);first | done | with_reducible rfl)
   try simp only [Act.put,lz3,lz4,lz5]
   refine wpAnyH_take (i:=4) (oi:=?oit4) (v:=?vt4) ?hit4 (by kernel_rfl) (by kernel_rfl) (by kernel_rfl) ?hQt4 (Or.inl ⟨?hwt4,?hyt4⟩) (by assumption) ?restt4
   case hit4=>(first | (simp only [lz0,lz1,lz2];rfl) | rfl)
   case hQt4=>exact fun _ _ _ h=>h
   case hwt4=>rfl
   case hyt4=>((intro w hSw;obtain ⟨hS1,hS2⟩:=hSw;go_simp);first | done | with_reducible rfl)
   try simp only [Act.put,lz3,lz4,lz5]
   refine wpAnyH_take (i:=5) (oi:=?oit5) (v:=?vt5) ?hit5 (by kernel_rfl) (by kernel_rfl) (by kernel_rfl) ?hQt5 (Or.inl ⟨?hwt5,?hyt5⟩) (by assumption) ?restt5
   case hit5=>(first | (simp only [lz0,lz1,lz2];rfl) | rfl)
   case hQt5=>exact fun _ _ _ h=>h
   case hwt5=>rfl
   case hyt5=>((intro w hSw;obtain ⟨hS1,hS2⟩:=hSw;go_simp);first | done | with_reducible rfl)
   try simp only [Act.put,lz3,lz4,lz5]
   refine wpAnyH_take (i:=6) (oi:=?oit6) (v:=?vt6) ?hit6 (by kernel_rfl) (by kernel_rfl) (by kernel_rfl) ?hQt6 (Or.inl ⟨?hwt6,?hyt6⟩) (by assumption) ?restt6
   case hit6=>(first | (simp only [lz0,lz1,lz2];rfl) | rfl)
   case hQt6=>exact fun _ _ _ h=>h
   case hwt6=>rfl
   case hyt6=>((intro w hSw;obtain ⟨hS1,hS2⟩:=hSw;go_simp);first | done | with_reducible rfl)
   try simp only [Act.put,lz3,lz4,lz5]
   refine wpAnyH_take (i:=7) (oi:=?oit7) (v:=?vt7) ?hit7 (by kernel_rfl) (by kernel_rfl) (by kernel_rfl) ?hQt7 (Or.inl ⟨?hwt7,?hyt7⟩) (by assumption) ?restt7
   case hit7=>(first | (simp only [lz0,lz1,lz2];rfl) | rfl)
   case hQt7=>exact fun _ _ _ h=>h
   case hwt7=>rfl
   case hyt7=>((intro w hSw;obtain ⟨hS1,hS2⟩:=hSw;go_simp);first | done | with_reducible rfl)
   try simp only [Act.put,lz3,lz4,lz5]
   refine wpAnyH_take (i:=8) (oi:=?oit8) (v:=?vt8) ?hit8 (by kernel_rfl) (by kernel_rfl) (by kernel_rfl) ?hQt8 (Or.inl ⟨?hwt8,?hyt8⟩) (by assumption) ?restt8
   case hit8=>(first | (simp only [lz0,lz1,lz2];rfl) | rfl)
   case hQt8=>exact fun _ _ _ h=>h
   case hwt8=>rfl
   case hyt8=>((intro w hSw;obtain ⟨hS1,hS2⟩:=hSw;go_simp);first | done | with_reducible rfl)
   try simp only [Act.put,lz3,lz4,lz5]
   refine wpAnyH_take (i:=9) (oi:=?oit9) (v:=?vt9) ?hit9 (by kernel_rfl) (by kernel_rfl) (by kernel_rfl) ?hQt9 (Or.inl ⟨?hwt9,?hyt9⟩) (by assumption) ?restt9
   case hit9=>(first | (simp only [lz0,lz1,lz2];rfl) | rfl)
   case hQt9=>exact fun _ _ _ h=>h
   case hwt9=>rfl
   case hyt9=>((intro w hSw;obtain ⟨hS1,hS2⟩:=hSw;go_simp);first | done | with_reducible rfl)
   try simp only [Act.put,lz3,lz4,lz5]
   obtain ⟨wd,hwd⟩:∃ z,z=wr.drew:=⟨_,rfl⟩
   have hbd:Below wr.heap.size wr wd:=by rw [hwd];exact (Below.refl _ wr).drew
   have HOD:=Lib.hid (ownsRow_block HO.out (w':=wd) fun g hg=>hbd.block g (HO.out.lt g hg).2)
   have hzd:wr.heap.size≤wd.heap.size:=by rw [hwd];exact Nat.le_refl _
   rw [← hwd]
   have hba:Below wd.heap.size wd (wd.alloc (.cells #[.int .i64 x1,.int .i64 x2] 64)):=(Below.refl _ wd).alloc (Nat.le_refl _) _
   have hSd:=And.intro (below_cells hbd a0) (below_cells hbd b0)
   have hSa:=And.intro (below_cells hba hSd.1) (below_cells hba hSd.2)
   have HBA:=Lib.hid (below_then (below_then HB.out hbd hbz) hba (by omega))
   clear hwd
   refine wpAnyH_ready (rs:=[10]) (by kernel_rfl) (by simp) ?_
   refine AllReadyH.cons (o:=?oc1) ?hcc1 ?stc1 AllReadyH.nil
   case hcc1=>(simp only [lz0,lz1,lz2];rfl)
   intro K hK
   go_simp
   refine hK.out _ _ hSa (fun _=>?_)
   clear hK K
   try simp only [Act.put,lz3,lz4,lz5]
   refine wpAnyH_ready (rs:=[11]) (by kernel_rfl) (by simp) ?_
   refine AllReadyH.cons (o:=?oc2) ?hcc2 ?stc2 AllReadyH.nil
   case hcc2=>(simp only [lz0,lz1,lz2];rfl)
   intro K hK
   refine step_append_recK _ rfl (.tmp 12) (.tmp 22) 60 rfl w.heap.size 64 i1 _ 2 16 Tryz.underlying60 hi1 hy0 hy1 hy2 rfl (by decide) _ k _ rfl (World.ownsRow.alloc HOD.out _) ⟨wd.heap.size,0,none⟩ 1 1 (twoCells (x1,x2)) rfl rfl (two_new wd 64 (x1,x2)) (two_one _) (by unfold maxLen;omega) (by omega) (by simp;omega) ?_
   intro v5 w5 hown hgrow hloc
   have HO5:=Lib.hid hown
   have HB5:=Lib.hid (HBA.out.grown hgrow (by simp;omega) (fun g hg=>(HO.out.lt g hg).1))
   have hS5:w5.cell? (pP.add k)=some (.int .i64 x1)∧w5.cell? (pA.add k)=some (.int .i64 x2):=⟨below_cells HB5.out HPI4.out,below_cells HB5.out HAI4.out⟩
   clear hown hgrow hloc
   refine hK.out _ _ hS5 (fun _=>?_)
   clear hK K
   try simp only [Act.put,lz3,lz4,lz5]
   refine wpAnyH_take (i:=12) (oi:=?oiu12) (v:=?vu12) ?hiu12 (by kernel_rfl) (by kernel_rfl) (by kernel_rfl) ?hQu12 (Or.inl ⟨?hwu12,?hyu12⟩) (by assumption) ?restu12
   case hiu12=>(first | (simp only [lz0,lz1,lz2];rfl) | rfl)
   case hQu12=>exact fun _ _ _ h=>h
   case hwu12=>rfl
   case hyu12=>((intro w hSw;obtain ⟨hS1,hS2⟩:=hSw;go_simp);first | done | with_reducible rfl)
   try simp only [Act.put,lz3,lz4,lz5]
   refine wpAnyH_done (by kernel_rfl) ?_ _
   go_wp2
   go_roundw
   case rel=>
    refine ⟨k+1,by omega,by go_num,?_,HB5.out⟩
    rw [HTK.out,List.flatMap_append]
    simpa using HO5.out
   case measure=>simp [intOf];omega
  ·obtain rfl:k=n:=by omega
   have hlz:¬ ((k:Int) < (k:Int)):=by omega
   have hall:(P.zip A).take k=P.zip A:=List.take_of_length_le (by rw [HZL.out];exact Nat.le_refl _)
   rw [hall] at HO
   have HO':=Lib.hid HO.out
   clear hall HO
   go_wp2
   go_ret
   exact ⟨_,rfl,HO'.out,HB.out⟩
def LeftAt (w:World) (g:Nat) (x:Nm):Prop:=∃ A n c,Blk w g 24 #[.slice A n c]∧BytesIn w A n x∧n≤c∧n≤1099511627776∧∀ ad,A=some ad→0 < n→ad.block < g
theorem LeftAt.kept {w w':World} {g:Nat} {x:Nm} (h:LeftAt w g x) (hk:∀ i,i≤g→w'.heap[i]?=w.heap[i]?) (hs:w.heap.size≤w'.heap.size):LeftAt w' g x:=by
 obtain ⟨A,n,c,h1,h2,h3,h4,h5⟩:=h
 exact ⟨A,n,c,(hk g (Nat.le_refl _)).trans h1,⟨h2.1,h2.2.1.keep fun ad e h0=>hk _ (Nat.le_of_lt (h5 ad e h0)),fun ad e h0=>Nat.lt_of_lt_of_le (h2.2.2 ad e h0) hs⟩,h3,h4,h5⟩
theorem LeftAt.lt {w:World} {g:Nat} {x:Nm} (h:LeftAt w g x):g < w.heap.size:=by
 obtain ⟨A,n,c,h1,_⟩:=h
 exact h1.lt
theorem LeftAt.below {w w':World} {g:Nat} {x:Nm} (h:LeftAt w g x) (hb:Below w.heap.size w w'):LeftAt w' g x:=h.kept (fun i hi=>hb.block i (by have:=h.lt;omega)) hb.size
theorem LeftAt.cut {w w2 w':World} {g:Nat} {x:Nm} {A:Option Addr} {n c:Nat} (h2:BytesIn w A n x) (h3:n≤c) (h4:n≤1099511627776) (h5:∀ ad,A=some ad→0 < n→ad.block < g) (hb:Below w.heap.size w w2) {j:Nat} (hj:j≤n)
  (hw:w'=w2.setCell ⟨g,0,none⟩ (.slice (cutAddr A j c) (n - j) (c - j))) (hB:Blk w2 g 24 #[.slice A n c]):LeftAt w' g (x.drop j):=by
 have hs:=(h2.below hb).sub h3 j n hj (Nat.le_refl _)
 have hl:x.length=n:=by have:=h2.2.1.len;simpa using this
 rw [List.take_of_length_le (by omega)] at hs
 have hne:∀ ad,cutAddr A j c=some ad→0 < n - j→ad.block < g:=fun ad e h0=>by
  unfold cutAddr at e
  split at e
  ·exact h5 ad e (by omega)
  ·cases A with
   | none=>cases e
   | some a=>
    simp at e
    subst e
    rw [cu_add_block]
    exact h5 a rfl (by omega)
 subst hw
 exact ⟨_,_,_,by simpa using hB.set_ 0 (.slice (cutAddr A j c) (n - j) (c - j)),⟨hs.1,hs.2.1.keep fun ad e h0=>Below.heap_setCell _ _ _ _ (Nat.ne_of_lt (hne ad e h0)),fun ad e h0=>by rw [size_setCell'];exact hs.2.2 ad e h0⟩,by omega,by omega,hne⟩
theorem cRise_any {w:World} {g:Nat} {x rest:Nm} (h:LeftAt w g x) {l:List Int} (hl:l.length≤4096) (hr:rises (-1) l=true) (hf:∀ y∈l,y≤9223372036854775807) (hx:x=putR l++rest):
  Calls Tryz.prog 216 #[.pointer (some ⟨g,0,none⟩)] w fun e w'=>∃ v,e=.returned v∧w'.ownsRow w.heap.size 2 1 v l.length (l.map i64V)∧LeftAt w' g rest∧Kept (fun i=>i=g) w w':=by
 obtain ⟨A,n,c,h1,h2,h3,h4,h5⟩:=h
 have hln:x.length=n:=by have:=h2.2.1.len;simpa using this
 have hgl:=h1.lt
 have HG:=Lib.hid (lGetRising_any w A n c x h2 h3 h4 4096 (by omega) (by omega))
 have hg:getR x 4096=(l,(putR l).length,0):=by rw [hx];exact getR_put l (by omega) hr hf _ _ (by omega)
 unfold GetROut at HG
 rw [hg] at HG
 simp only at HG
 obtain ⟨j,hj⟩:∃ j,j=(putR l).length:=⟨_,rfl⟩
 rw [← hj] at HG
 have hjn:j≤n:=by rw [hj,← hln,hx,List.length_append];omega
 have hdr:x.drop j=rest:=by rw [hj,hx,List.drop_left]
 have HB:=Lib.hid h1
 have H2:=Lib.hid h2
 have H5:=Lib.hid h5
 have HDR:=Lib.hid hdr
 have c0:=h1.cell 0
 simp at c0
 have hsl:=fun w=>slice_from w A n c j hjn
 clear h1 h2 h5 hg hj hx hln hdr
 go_enter Tryz.func216,Tryz.ntmps216
 go_wp2_with fail
 refine HG.out.mono ?_
 rintro e w1 ⟨v1,rfl,hb1,ho1⟩
 have HB1:=Lib.hid hb1
 have HO1:=Lib.hid ho1
 have HBK1:=Lib.hid (HB.out.below hb1 hgl)
 have t0:=HBK1.out.cell 0
 have z0:=HBK1.out.frozen 0
 simp at t0
 clear hb1 ho1 c0
 go_wp2
 go_ret
 refine ⟨v1,rfl,ownsRow_block HO1.out fun i hi=>Below.heap_setCell _ _ _ _ (by have:=(HO1.out.lt i hi).1;simp only;omega),?_,cu_set (Kept.below HB1.out) 0 _⟩
 have:=LeftAt.cut (g:=g) H2.out h3 h4 H5.out HB1.out hjn rfl HBK1.out
 rw [HDR.out] at this
 exact this
structure RdB (w wr:World) (x:Nm) (vv:Value):Prop where
 left:LeftAt wr w.heap.size x
 res:Blk wr (w.heap.size+1) 143 #[.slice none 0 0]
 blk:Blk wr (w.heap.size+2) 143 #[vv]
 below:Below w.heap.size w wr
theorem RdB.more {w wr w':World} {x:Nm} {vv:Value} (h:RdB w wr x vv) (hb:Below wr.heap.size wr w'):RdB w w' x vv:=
 ⟨h.left.below hb,h.res.below hb h.res.lt,h.blk.below hb h.blk.lt,below_then h.below hb h.below.size⟩
theorem RdB.turn {w wr w':World} {x x':Nm} {vv:Value} (h:RdB w wr x vv) (hk:Kept (fun i=>i=w.heap.size) wr w') (hl:LeftAt w' w.heap.size x'):RdB w w' x' vv:=
 ⟨hl,h.res.kept hk (by omega),h.blk.kept hk (by omega),h.below.trans (hk.toBelow h.below.size (fun i e=>by omega))⟩
theorem RdB.grown {w wr w':World} {x:Nm} {vv:Value} {row:Option Nat} (h:RdB w wr x vv) (hg:wr.grownBy w' row) (hr:∀ g,row=some g→w.heap.size+3≤g):RdB w w' x vv:=
 ⟨h.left.kept (fun i hi=>hg.block i (by have:=h.left.lt;omega) (fun e=>by have:=hr i e.symm;omega)) hg.size,h.res.grown hg (fun e=>by have:=hr _ e.symm;omega),h.blk.grown hg (fun e=>by have:=hr _ e.symm;omega),h.below.grown hg h.below.size (fun g e=>by have:=hr g e;omega)⟩
theorem RdB.put {w wr:World} {x:Nm} {vv:Value} (h:RdB w wr x vv) (u:Value):RdB w (wr.setCell ⟨w.heap.size+2,0,none⟩ u) x u:=
 ⟨h.left.kept (fun i hi=>heap_setCell_other _ _ _ (by simp only;omega)) (by rw [size_setCell'];exact Nat.le_refl _),h.res.far (by simp only;omega) u,by simpa using h.blk.set_ 0 u,h.below.setCell (p:=⟨w.heap.size+2,0,none⟩) (by simp only;omega) u⟩
theorem cblkCells:(Tryz.prog.info? 143).map (·.size)=some 1:=by kernel_rfl
theorem unit_pos (l:List Pst) (i:Nat):0 < (unitB l i).length:=by
 unfold unitB
 rw [List.length_append]
 have:=putL_pos ((pAt l i).1 - lastD l i - 1).toNat
 omega
theorem cRead_any (w:World) (A:Option Addr) (n c:Nat) {l:List Pst} (hV:ValidP l) {Q E:Nat} (hQE:Q≤E) (hE:E≤l.length) (hb:BytesIn w A n (cat (unitB l) Q (E - Q))) (hc:n≤c) (hn:n≤1099511627776) {d0:Int} (hd0:d0=lastD l Q):
  Calls Tryz.prog 195 #[.slice A n c,.int .i64 d0] w fun e w'=>∃ v,e=.returned (.agg #[v])∧PostsO w' w.heap.size v (sl l Q E)∧Below w.heap.size w w':=by
 obtain ⟨i1,hi1,hy0,hy1,hy2⟩:=info_parts postInfo
 obtain ⟨W3,hW3⟩:∃ W3,W3=((w.alloc (.cells #[.slice A n c] 24)).alloc (.cells #[.slice none 0 0] 143)).alloc (.cells #[.slice none 0 0] 143):=⟨_,rfl⟩
 have hb3:Below w.heap.size w W3:=by rw [hW3];exact (((Below.refl _ w).alloc (Nat.le_refl _) _).alloc (by simp) _).alloc (by simp;omega) _
 have hR3:RdB w W3 (cat (unitB l) Q (E - Q)) (.slice none 0 0):=by
  refine ⟨⟨A,n,c,?_,hb.below hb3,hc,hn,fun ad e h0=>hb.2.2 ad e h0⟩,?_,?_,hb3⟩
  ·rw [hW3];exact ((Blk.new w _ _).alloc _).alloc _
  ·rw [hW3];have:=(Blk.new (w.alloc (.cells #[.slice A n c] 24)) 143 #[.slice none 0 0]).alloc (.cells #[.slice none 0 0] 143);simpa using this
  ·rw [hW3];have:=Blk.new ((w.alloc (.cells #[.slice A n c] 24)).alloc (.cells #[.slice none 0 0] 143)) 143 #[.slice none 0 0];simpa using this
 have HR3:=Lib.hid hR3
 have HW3:=Lib.hid hW3
 have HV:=Lib.hid hV
 have HD0:=Lib.hid hd0
 clear hb hW3 hb3 hR3 hV hd0 hc hn
 go_enter Tryz.func195,Tryz.ntmps195
 go_wp2_with fail
 rw [← HW3.out]
 go_loopw [1] (fun s1 wr=>∃ q vv,Q≤q∧q≤E∧s1=.int .i64 (lastD l q)∧RdB w wr (cat (unitB l) q (E - q)) vv∧PostsO wr (w.heap.size+3) vv (sl l Q q)) (fun s1 _=>(4294967297 - Go.RowKit.intOf s1).toNat)
 case atStart=>exact ⟨Q,.slice none 0 0,Nat.le_refl _,hQE,by rw [HD0.out],HR3.out,by rw [sl_none];exact PostsO.nil _ _⟩
 case round=>
  obtain ⟨q,vv,hq1,hq2,rfl,hR,hP⟩:=hrel
  have HR:=Lib.hid hR
  have HP:=Lib.hid hP
  obtain ⟨A1,n1,c1,b1,b2,b3,b4,b5⟩:=hR.left
  have hxl:(cat (unitB l) q (E - q)).length=n1:=by have:=b2.2.1.len;simpa using this
  have t0:=b1.cell 0
  have z0:=b1.frozen 0
  simp only [lz0,lz1] at t0
  have HB1:=Lib.hid b1
  have HB2:=Lib.hid b2
  have HB5:=Lib.hid b5
  clear b1 b2 b5 hR hP
  rcases Nat.lt_or_ge q E with hlt | hge
  ·have hx:cat (unitB l) q (E - q)=unitB l q++cat (unitB l) (q+1) (E - (q+1)):=by
    rw [show E - q=(E - (q+1))+1 by omega,cat_cons]
   have hp:=HV.out.last (i:=q) (by omega)
   have hu:=HV.out.up q (by omega)
   have hd:=HV.out.docs _ (pAt_mem (show q < l.length by omega))
   have hsp:=HV.out.spots _ (pAt_mem (show q < l.length by omega))
   have hpos:=HV.out.pos _ (pAt_mem (show q < l.length by omega))
   have hats:=HV.out.at_ _ (pAt_mem (show q < l.length by omega))
   have hfit:=poss_le (HV.out.fit _ (pAt_mem (show q < l.length by omega)))
   have hnl:=poss_len (pAt l q).2
   have hzip:=zip_spots (pAt l q).2
   have hsl1:=sl_cat l (x:=Q) (y:=q) (z:=q+1) hq1 (by omega)
   rw [sl_one (show q < l.length by omega)] at hsl1
   have hnx:=lastD_succ l q
   have hslen:(sl l Q q).length=q - Q:=sl_len (by omega)
   have hUP:=unit_pos l q
   obtain ⟨x,hxx⟩:∃ x,x=pAt l q:=⟨_,rfl⟩
   obtain ⟨D,hD⟩:∃ D,D=lastD l q:=⟨_,rfl⟩
   obtain ⟨gap,hgap⟩:∃ gap,gap=((pAt l q).1 - lastD l q - 1).toNat:=⟨_,rfl⟩
   have hun:unitB l q=putL gap++(putR (poss x.2)++putR (atss x.2)):=by unfold unitB;rw [← hgap,← hxx]
   rw [← hxx] at hu hd hsp hpos hats hfit hnl hzip hsl1 hnx hgap
   rw [← hD] at hp hu hgap ⊢
   obtain ⟨R,hRR⟩:∃ R,R=cat (unitB l) (q+1) (E - (q+1)):=⟨_,rfl⟩
   rw [← hRR,hun] at hx
   have hn1:0 < n1:=by rw [← hxl,hx];rw [hun] at hUP;simp only [List.length_append] at hUP ⊢;omega
   have hg64:gap < 2 ^ 40:=by omega
   have hDg:D+(1+(gap:Int))=x.1:=by omega
   have hg:getL (cat (unitB l) q (E - q))=(gap,(putL gap).length,0):=by rw [hx,List.append_assoc];exact getL_put (by omega) _
   have HG:=Lib.hid (lGet_any wr A1 n1 c1 _ HB2.out)
   unfold gotV at HG
   rw [hg] at HG
   simp only at HG
   obtain ⟨j,hj⟩:∃ j,j=(putL gap).length:=⟨_,rfl⟩
   rw [← hj] at HG
   have hjn:j≤n1:=by rw [hj,← hxl,hx];simp only [List.length_append];omega
   have hdr:(cat (unitB l) q (E - q)).drop j=putR (poss x.2)++(putR (atss x.2)++R):=by rw [hj,hx,List.append_assoc,List.drop_left,List.append_assoc]
   have HDR:=Lib.hid hdr
   have hpl:(poss x.2).length=x.2.length:=hnl.1
   have hal:(atss x.2).length=x.2.length:=hnl.2
   have HX:=Lib.hid (show (x=pAt l q∧R=cat (unitB l) (q+1) (E - (q+1))∧sl l Q q++[x]=sl l Q (q+1)∧lastD l (q+1)=x.1) from ⟨hxx,hRR,hsl1,hnx⟩)
   have HSL:=Lib.hid hslen
   have HZ:=Lib.hid hzip
   have HPO:=Lib.hid (show rises (-1) (poss x.2)=true∧(∀ y∈poss x.2,y≤9223372036854775807) from ⟨hpos,hfit.1⟩)
   have HAT:=Lib.hid (show rises (-1) (atss x.2)=true∧(∀ y∈atss x.2,y≤9223372036854775807) from ⟨hats,hfit.2⟩)
   have HPL:=Lib.hid hpl
   have HAL:=Lib.hid hal
   obtain ⟨ns,hns⟩:∃ ns,ns=x.2.length:=⟨_,rfl⟩
   have hns4:ns≤4096:=by omega
   obtain ⟨DD,hDD⟩:∃ DD,DD=x.1:=⟨_,rfl⟩
   rw [← hDD] at hd hDg hu
   have HNS:=Lib.hid hns
   have HDD:=Lib.hid hDD
   have hsl:=fun w=>slice_from w A1 n1 c1 j hjn
   have hw0:IntKind.i64.wrap (gap:Int)=(gap:Int):=IntWalk.i64_in _ (by omega)
   have hw1:IntKind.i64.wrap (1+(gap:Int))=1+(gap:Int):=IntWalk.i64_in _ (by omega)
   have hw2:IntKind.i64.wrap (D+(1+(gap:Int)))=D+(1+(gap:Int)):=IntWalk.i64_in _ (by omega)
   have HDG:=Lib.hid hDg
   have d1:decide ((0:Int) < (n1:Int))=true:=decide_eq_true (by omega)
   clear hx hun hsl1 hnx hslen hUP hRR hg hj hdr hpl hal hxx hD hgap hnl hzip hpos hats hfit hsp hns hDD hxl
   obtain ⟨wo,hwo⟩:∃ z,z=wr:=⟨_,rfl⟩
   subst hwo
   go_wp2_with fail
   refine HG.out.mono ?_
   rintro e w1 ⟨rfl,rfl⟩
   have HL2:∀ w2,w2=w1.setCell ⟨w.heap.size,0,none⟩ (.slice (cutAddr A1 j c1) (n1 - j) (c1 - j))→LeftAt w2 w.heap.size (putR (poss x.2)++(putR (atss x.2)++R)):=fun w2 e=>by
    have:=LeftAt.cut HB2.out b3 b4 HB5.out (Below.refl _ w1) hjn e HB1.out
    rw [HDR.out] at this
    exact this
   have HL2:=Lib.hid HL2
   go_wp2_with fail
   obtain ⟨w2,hw2⟩:∃ w2,w2=w1.setCell ⟨w.heap.size,0,none⟩ (.slice (cutAddr A1 j c1) (n1 - j) (c1 - j)):=⟨_,rfl⟩
   rw [← hw2]
   have hl2:=HL2.out w2 hw2
   have hk2:Kept (fun i=>i=w.heap.size) w1 w2:=by rw [hw2];exact cu_set (Kept.refl _ w1) 0 _
   have HR2:=Lib.hid (HR.out.turn hk2 hl2)
   have HP2:=Lib.hid (HP.out.keepIn (fun i h1 h2=>hk2.block i h2 (fun e=>by omega)) hk2.size)
   clear hw2 hk2 t0 z0 d1
   refine (cRise_any hl2 (by rw [HPL.out,← HNS.out];exact hns4) HPO.out.1 HPO.out.2 rfl).mono ?_
   rintro e w3 ⟨v3,rfl,ho3,hl3,hk3⟩
   have HR3:=Lib.hid (HR2.out.turn hk3 hl3)
   have HP3:=Lib.hid (HP2.out.keepIn (fun i h1 h2=>hk3.block i h2 (fun e=>by omega)) hk3.size)
   have HO3:=Lib.hid ho3
   obtain ⟨AP,cP,rfl⟩:=own_slice ho3
   have hz3:=HR2.out.left.lt
   clear hl2 ho3 hk3
   go_wp2_with fail
   refine (cRise_any hl3 (by rw [HAL.out,← HNS.out];exact hns4) HAT.out.1 HAT.out.2 rfl).mono ?_
   rintro e w4 ⟨v4,rfl,ho4,hl4,hk4⟩
   have HR4:=Lib.hid (HR3.out.turn hk4 hl4)
   have HP4:=Lib.hid (HP3.out.keepIn (fun i h1 h2=>hk4.block i h2 (fun e=>by omega)) hk4.size)
   have HI3:Hid (IntsIn w4 AP ns (poss x.2)):=Lib.hid (by
    have:=IntsIn.own (ownsRow_block HO3.out (w':=w4) fun g hg=>hk4.block g (HO3.out.lt g hg).2 (fun e=>by have:=(HO3.out.lt g hg).1;omega)) (by unfold maxLen;have:=HPL.out;have:=HNS.out;omega) (fun y hy=>⟨by have:=rises_ge HPO.out.1 y hy;omega,HPO.out.2 y hy⟩)
    rwa [HPL.out,← HNS.out] at this)
   obtain ⟨AA,cA,rfl⟩:=own_slice ho4
   have HI4:Hid (IntsIn w4 AA ns (atss x.2)):=Lib.hid (by
    have:=IntsIn.own ho4 (by unfold maxLen;have:=HAL.out;have:=HNS.out;omega) (fun y hy=>⟨by have:=rises_ge HAT.out.1 y hy;omega,HAT.out.2 y hy⟩)
    rwa [HAL.out,← HNS.out] at this)
   clear hl3 ho4 hl4 hk4
   rw [HPL.out,HAL.out,← HNS.out]
   go_wp2_with fail
   refine wp_region_held_drew (S:=fun _=>True) (by kernel_rfl) trivial (fun hHeld=>?_)
   obtain ⟨u0,hu0⟩:∃ z,z=w4.drew:=⟨_,rfl⟩
   rw [← hu0]
   have hb0:Below w4.heap.size w4 u0:=by rw [hu0];exact (Below.refl _ w4).drew
   have HB0:=Lib.hid (HR4.out.more hb0)
   have HQ0:=Lib.hid (HP4.out.below hb0)
   have HSP:=Lib.hid (cSpots_any u0 AP AA ns cP cA _ _ (HI3.out.below hb0) (HI4.out.below hb0) hns4)
   rw [HZ.out] at HSP
   have hsq:(sl l Q q).length≤4096:=by have:=HSL.out;have:=HV.out.few;omega
   have hfx:fits64 DD:=by unfold fits64;omega
   clear hu0 hb0
   have HFP:Hid (∀ p∈x.2,fits64 p.1∧fits64 p.2):=Lib.hid (fun p hp=>by
    have h1:=HPO.out.2 p.1 (List.mem_map_of_mem hp)
    have h2:=HAT.out.2 p.2 (List.mem_map_of_mem hp)
    have h3:=rises_ge HPO.out.1 p.1 (List.mem_map_of_mem hp)
    have h4:=rises_ge HAT.out.1 p.2 (List.mem_map_of_mem hp)
    unfold fits64
    omega)
   have HOW:Hid (∀ g,vv.ownBlock=some g→g < u0.heap.size):=Lib.hid (fun g hg=>by
    obtain ⟨_,_,h1,_⟩:=HQ0.out
    exact (h1.lt g hg).2)
   refine wpAnyH_take (i:=0) (oi:=?oit10) (v:=?vt10) ?hit10 (by kernel_rfl) (by kernel_rfl) (by kernel_rfl) ?hQt10 (Or.inl ⟨?hwt10,?hyt10⟩) (by assumption) ?restt10
   case hit10=>(first | (simp only [lz0,lz1,lz2];rfl) | rfl)
   case hQt10=>exact fun _ _ _ h=>h
   case hwt10=>rfl
   case hyt10=>((intro w hSw;go_simp);first | done | with_reducible rfl)
   try simp only [Act.put,lz3,lz4,lz5]
   refine wpAnyH_take (i:=2) (oi:=?oit22) (v:=?vt22) ?hit22 (by kernel_rfl) (by kernel_rfl) (by kernel_rfl) ?hQt22 (Or.inl ⟨?hwt22,?hyt22⟩) (by assumption) ?restt22
   case hit22=>(first | (simp only [lz0,lz1,lz2];rfl) | rfl)
   case hQt22=>exact fun _ _ _ h=>h
   case hwt22=>rfl
   case hyt22=>((intro w hSw;go_simp);first | done | with_reducible rfl)
   try simp only [Act.put,lz3,lz4,lz5]
   refine wpAnyH_take (i:=3) (oi:=?oit33) (v:=?vt33) ?hit33 (by kernel_rfl) (by kernel_rfl) (by kernel_rfl) ?hQt33 (Or.inl ⟨?hwt33,?hyt33⟩) (by assumption) ?restt33
   case hit33=>(first | (simp only [lz0,lz1,lz2];rfl) | rfl)
   case hQt33=>exact fun _ _ _ h=>h
   case hwt33=>rfl
   case hyt33=>((intro w hSw;go_simp);first | done | with_reducible rfl)
   try simp only [Act.put,lz3,lz4,lz5]
   refine wpAnyH_take (i:=4) (oi:=?oit44) (v:=?vt44) ?hit44 (by kernel_rfl) (by kernel_rfl) (by kernel_rfl) ?hQt44 (Or.inl ⟨?hwt44,?hyt44⟩) (by assumption) ?restt44
   case hit44=>(first | (simp only [lz0,lz1,lz2];rfl) | rfl)
   case hQt44=>exact fun _ _ _ h=>h
   case hwt44=>rfl
   case hyt44=>((intro w hSw;go_simp);first | done | with_reducible rfl)
   try simp only [Act.put,lz3,lz4,lz5]
   refine wpAnyH_ready (rs:=[1,5]) (by kernel_rfl) (by simp) ?_
   refine AllReadyH.cons (o:=?ot5) ?ht5 ?st5 (AllReadyH.cons (o:=?ot6) ?ht6 ?st6 AllReadyH.nil)
   case ht5=>(simp only [lz0,lz1,lz2];rfl)
   case ht6=>(simp only [lz0,lz1,lz2];rfl)
   case st5=>
    intro K hK
    have yq1:=HB0.out.blk.cell 0
    simp only [lz0,lz1] at yq1
    go_simp
    clear yq1
    refine hK.out _ _ trivial (fun ht7=>?_)
    clear hK K
    try simp only [Act.put,lz3,lz4,lz5]
    refine wpAnyH_ready (rs:=[5]) (by kernel_rfl) (by simp) ?_
    refine AllReadyH.cons (o:=?ot8) ?ht8 ?st8 AllReadyH.nil
    case ht8=>(simp only [lz0,lz1,lz2];rfl)
    case st8=>
     intro K hK
     go_simp
     refine HSP.out.mono ?_
     rintro e uq2 ⟨svq3,rfl,hoq4,hbq5⟩
     obtain ⟨SAq8,scq9,rfl⟩:=own_slice hoq4
     have Bq6:=Lib.hid (HB0.out.more hbq5)
     have Qq7:=Lib.hid (HQ0.out.below hbq5)
     have Hhoq4:=Lib.hid hoq4
     have Hhbq5:=Lib.hid hbq5
     clear hoq4 hbq5
     go_wp2_with fail
     refine hK.out _ _ trivial (fun ht9=>?_)
     clear hK K
     try simp only [Act.put,lz3,lz4,lz5]
     refine wpAnyH_take (i:=6) (oi:=?oit106) (v:=?vt106) ?hit106 (by kernel_rfl) (by kernel_rfl) (by kernel_rfl) ?hQt106 (Or.inl ⟨?hwt106,?hyt106⟩) (by assumption) ?restt106
     case hit106=>(first | (simp only [lz0,lz1,lz2];rfl) | rfl)
     case hQt106=>exact fun _ _ _ h=>h
     case hwt106=>rfl
     case hyt106=>((intro w hSw;go_simp);first | done | with_reducible rfl)
     try simp only [Act.put,lz3,lz4,lz5]
     refine wpAnyH_ready (rs:=[7]) (by kernel_rfl) (by simp) ?_
     refine AllReadyH.cons (o:=?ot11) ?ht11 ?st11 AllReadyH.nil
     case ht11=>(simp only [lz0,lz1,lz2];rfl)
     case st11=>
      intro K hK
      go_simp
      obtain ⟨uq10,huq15⟩:∃ z,z=uq2.alloc (.cells #[.int .i64 DD,.slice SAq8 ns scq9] 62):=⟨_,rfl⟩
      have Nq11:Hid (Blk uq10 uq2.heap.size 62 #[.int .i64 DD,.slice SAq8 ns scq9]):=Lib.hid (by rw [huq15];exact Blk.new _ _ _)
      rw [← huq15]
      have hbq16:Below uq2.heap.size uq2 uq10:=by rw [huq15];exact (Below.refl _ uq2).alloc (Nat.le_refl _) _
      have Bq12:=Lib.hid (Bq6.out.more hbq16)
      have Qq13:=Lib.hid (Qq7.out.below hbq16)
      have SOq14:=Lib.hid (ownsRow_block Hhoq4.out (w':=uq10) fun g hg=>hbq16.block g (Hhoq4.out.lt g hg).2)
      have HShbq16:=Lib.hid hbq16.size
      clear huq15 hbq16
      refine hK.out _ _ trivial (fun ht12=>?_)
      clear hK K
      try simp only [Act.put,lz3,lz4,lz5]
      refine wpAnyH_ready (rs:=[8]) (by kernel_rfl) (by simp) ?_
      refine AllReadyH.cons (o:=?ot13) ?ht13 ?st13 AllReadyH.nil
      case ht13=>(simp only [lz0,lz1,lz2];rfl)
      case st13=>
       intro K hK
       obtain ⟨Rq24,kq25,kq26,kq27⟩:=Qq13.out
       refine step_append_recK _ rfl (.tmp 35) (.tmp 41) 56 rfl (w.heap.size+3) 62 i1 _ 2 32 Tryz.underlying56 hi1 hy0 hy1 hy2 rfl (by decide) _ _ _ rfl kq26 ⟨uq2.heap.size,0,none⟩ 1 1 (docCells (DD,.slice SAq8 ns scq9)) rfl rfl (doc_src (p:=(DD,.slice SAq8 ns scq9)) Nq11.out) (doc_one _ _ _ _) (by unfold maxLen;omega) (by omega) (by have:=Bq12.out.blk.lt;omega) ?_
       intro vq21 uq17 hwq18 hgq19 hlq20
       have Bq22:=Lib.hid (Bq12.out.grown hgq19 (fun g hg=>(kq26.lt g hg).1))
       have Qq23:Hid (PostsO uq17 (w.heap.size+3) vq21 (sl l Q q++[x])):=Lib.hid (PostsO.push kq25 kq27 (p:=(DD,.slice SAq8 ns scq9)) ⟨HDD.out,by rw [← HDD.out];exact hfx,_,_,by simp only;rw [HNS.out],by rw [← HNS.out];exact rowCap_le SOq14.out,by
         rw [← HNS.out]
         exact PairsIn.ownTwo SOq14.out HNS.out.symm (by unfold maxLen;omega) (fun p hp=>HFP.out p hp),fun ad e h0=>by
         have q1:=SOq14.out.lt ad.block (by rw [e];rfl)
         refine ⟨q1.2,by have:=HB0.out.blk.lt;omega,fun e2=>?_⟩
         have q2:=(HOW.out _ e2)
         omega⟩ hwq18 hgq19 (by
         rcases hlq20 with e | e
         ·exact .inl e
         ·exact .inr ⟨_,e,Nat.le_refl _⟩))
       clear hwq18 hgq19 hlq20 kq25 kq26 kq27
       refine hK.out _ _ trivial (fun ht14=>?_)
       clear hK K
       try simp only [Act.put,lz3,lz4,lz5]
       refine wpAnyH_take (i:=9) (oi:=?oit159) (v:=?vt159) ?hit159 (by kernel_rfl) (by kernel_rfl) (by kernel_rfl) ?hQt159 (Or.inl ⟨?hwt159,?hyt159⟩) (by assumption) ?restt159
       case hit159=>(first | (simp only [lz0,lz1,lz2];rfl) | rfl)
       case hQt159=>exact fun _ _ _ h=>h
       case hwt159=>rfl
       case hyt159=>((intro w hSw;go_simp);first | done | with_reducible rfl)
       try simp only [Act.put,lz3,lz4,lz5]
       refine wpAnyH_ready (rs:=[10]) (by kernel_rfl) (by simp) ?_
       refine AllReadyH.cons (o:=?ot16) ?ht16 ?st16 AllReadyH.nil
       case ht16=>(simp only [lz0,lz1,lz2];rfl)
       case st16=>
        intro K hK
        have yq28:=Bq22.out.blk.cell 0
        have zq29:=Bq22.out.blk.frozen 0
        simp only [lz0,lz1] at yq28
        obtain ⟨Avq21,cvq21,evq21⟩:∃ A c,vq21=.slice A ((sl l Q q).length+1) c:=by
         obtain ⟨_,_,h1,_⟩:=Qq23.out
         have:=own_slice h1
         simpa using this
        subst evq21
        go_simp
        clear yq28 zq29
        have Bq30:=Lib.hid (Bq22.out.put (.slice Avq21 ((sl l Q q).length+1) cvq21))
        have Qq31:=Lib.hid (Qq23.out.keepIn (w':=uq17.setCell ⟨w.heap.size+2,0,none⟩ (.slice Avq21 ((sl l Q q).length+1) cvq21)) (fun i h1 h2=>heap_setCell_other _ _ _ (by simp only;omega)) (by rw [size_setCell'];exact Nat.le_refl _))
        refine hK.out _ _ trivial (fun ht17=>?_)
        clear hK K
        try simp only [Act.put,lz3,lz4,lz5]
        refine wpAnyH_done (by kernel_rfl) ?_ _
        go_wp2
        go_roundw
        case rel=>
         obtain ⟨e1,e2,e3,e4⟩:=HX.out
         have hb:=Bq30.out
         have hq:=Qq31.out
         rw [e2] at hb
         rw [e3] at hq
         exact ⟨q+1,_,by omega,by omega,by rw [e4,HDD.out],hb,hq⟩
        case measure=>simp [Go.RowKit.intOf];omega
   case st6=>
    intro K hK
    go_simp
    refine HSP.out.mono ?_
    rintro e uq32 ⟨svq33,rfl,hoq34,hbq35⟩
    obtain ⟨SAq38,scq39,rfl⟩:=own_slice hoq34
    have Bq36:=Lib.hid (HB0.out.more hbq35)
    have Qq37:=Lib.hid (HQ0.out.below hbq35)
    have Hhoq34:=Lib.hid hoq34
    have Hhbq35:=Lib.hid hbq35
    clear hoq34 hbq35
    go_wp2_with fail
    refine hK.out _ _ trivial (fun ht18=>?_)
    clear hK K
    try simp only [Act.put,lz3,lz4,lz5]
    refine wpAnyH_take (i:=6) (oi:=?oit196) (v:=?vt196) ?hit196 (by kernel_rfl) (by kernel_rfl) (by kernel_rfl) ?hQt196 (Or.inl ⟨?hwt196,?hyt196⟩) (by assumption) ?restt196
    case hit196=>(first | (simp only [lz0,lz1,lz2];rfl) | rfl)
    case hQt196=>exact fun _ _ _ h=>h
    case hwt196=>rfl
    case hyt196=>((intro w hSw;go_simp);first | done | with_reducible rfl)
    try simp only [Act.put,lz3,lz4,lz5]
    refine wpAnyH_ready (rs:=[1,7]) (by kernel_rfl) (by simp) ?_
    refine AllReadyH.cons (o:=?ot20) ?ht20 ?st20 (AllReadyH.cons (o:=?ot21) ?ht21 ?st21 AllReadyH.nil)
    case ht20=>(simp only [lz0,lz1,lz2];rfl)
    case ht21=>(simp only [lz0,lz1,lz2];rfl)
    case st20=>
     intro K hK
     have yq40:=Bq36.out.blk.cell 0
     simp only [lz0,lz1] at yq40
     go_simp
     clear yq40
     refine hK.out _ _ trivial (fun ht22=>?_)
     clear hK K
     try simp only [Act.put,lz3,lz4,lz5]
     refine wpAnyH_ready (rs:=[7]) (by kernel_rfl) (by simp) ?_
     refine AllReadyH.cons (o:=?ot23) ?ht23 ?st23 AllReadyH.nil
     case ht23=>(simp only [lz0,lz1,lz2];rfl)
     case st23=>
      intro K hK
      go_simp
      obtain ⟨uq41,huq46⟩:∃ z,z=uq32.alloc (.cells #[.int .i64 DD,.slice SAq38 ns scq39] 62):=⟨_,rfl⟩
      have Nq42:Hid (Blk uq41 uq32.heap.size 62 #[.int .i64 DD,.slice SAq38 ns scq39]):=Lib.hid (by rw [huq46];exact Blk.new _ _ _)
      rw [← huq46]
      have hbq47:Below uq32.heap.size uq32 uq41:=by rw [huq46];exact (Below.refl _ uq32).alloc (Nat.le_refl _) _
      have Bq43:=Lib.hid (Bq36.out.more hbq47)
      have Qq44:=Lib.hid (Qq37.out.below hbq47)
      have SOq45:=Lib.hid (ownsRow_block Hhoq34.out (w':=uq41) fun g hg=>hbq47.block g (Hhoq34.out.lt g hg).2)
      have HShbq47:=Lib.hid hbq47.size
      clear huq46 hbq47
      refine hK.out _ _ trivial (fun ht24=>?_)
      clear hK K
      try simp only [Act.put,lz3,lz4,lz5]
      refine wpAnyH_ready (rs:=[8]) (by kernel_rfl) (by simp) ?_
      refine AllReadyH.cons (o:=?ot25) ?ht25 ?st25 AllReadyH.nil
      case ht25=>(simp only [lz0,lz1,lz2];rfl)
      case st25=>
       intro K hK
       obtain ⟨Rq55,kq56,kq57,kq58⟩:=Qq44.out
       refine step_append_recK _ rfl (.tmp 35) (.tmp 41) 56 rfl (w.heap.size+3) 62 i1 _ 2 32 Tryz.underlying56 hi1 hy0 hy1 hy2 rfl (by decide) _ _ _ rfl kq57 ⟨uq32.heap.size,0,none⟩ 1 1 (docCells (DD,.slice SAq38 ns scq39)) rfl rfl (doc_src (p:=(DD,.slice SAq38 ns scq39)) Nq42.out) (doc_one _ _ _ _) (by unfold maxLen;omega) (by omega) (by have:=Bq43.out.blk.lt;omega) ?_
       intro vq52 uq48 hwq49 hgq50 hlq51
       have Bq53:=Lib.hid (Bq43.out.grown hgq50 (fun g hg=>(kq57.lt g hg).1))
       have Qq54:Hid (PostsO uq48 (w.heap.size+3) vq52 (sl l Q q++[x])):=Lib.hid (PostsO.push kq56 kq58 (p:=(DD,.slice SAq38 ns scq39)) ⟨HDD.out,by rw [← HDD.out];exact hfx,_,_,by simp only;rw [HNS.out],by rw [← HNS.out];exact rowCap_le SOq45.out,by
         rw [← HNS.out]
         exact PairsIn.ownTwo SOq45.out HNS.out.symm (by unfold maxLen;omega) (fun p hp=>HFP.out p hp),fun ad e h0=>by
         have q1:=SOq45.out.lt ad.block (by rw [e];rfl)
         refine ⟨q1.2,by have:=HB0.out.blk.lt;omega,fun e2=>?_⟩
         have q2:=(HOW.out _ e2)
         omega⟩ hwq49 hgq50 (by
         rcases hlq51 with e | e
         ·exact .inl e
         ·exact .inr ⟨_,e,Nat.le_refl _⟩))
       clear hwq49 hgq50 hlq51 kq56 kq57 kq58
       refine hK.out _ _ trivial (fun ht26=>?_)
       clear hK K
       try simp only [Act.put,lz3,lz4,lz5]
       refine wpAnyH_take (i:=9) (oi:=?oit279) (v:=?vt279) ?hit279 (by kernel_rfl) (by kernel_rfl) (by kernel_rfl) ?hQt279 (Or.inl ⟨?hwt279,?hyt279⟩) (by assumption) ?restt279
       case hit279=>(first | (simp only [lz0,lz1,lz2];rfl) | rfl)
       case hQt279=>exact fun _ _ _ h=>h
       case hwt279=>rfl
       case hyt279=>((intro w hSw;go_simp);first | done | with_reducible rfl)
       try simp only [Act.put,lz3,lz4,lz5]
       refine wpAnyH_ready (rs:=[10]) (by kernel_rfl) (by simp) ?_
       refine AllReadyH.cons (o:=?ot28) ?ht28 ?st28 AllReadyH.nil
       case ht28=>(simp only [lz0,lz1,lz2];rfl)
       case st28=>
        intro K hK
        have yq59:=Bq53.out.blk.cell 0
        have zq60:=Bq53.out.blk.frozen 0
        simp only [lz0,lz1] at yq59
        obtain ⟨Avq52,cvq52,evq52⟩:∃ A c,vq52=.slice A ((sl l Q q).length+1) c:=by
         obtain ⟨_,_,h1,_⟩:=Qq54.out
         have:=own_slice h1
         simpa using this
        subst evq52
        go_simp
        clear yq59 zq60
        have Bq61:=Lib.hid (Bq53.out.put (.slice Avq52 ((sl l Q q).length+1) cvq52))
        have Qq62:=Lib.hid (Qq54.out.keepIn (w':=uq48.setCell ⟨w.heap.size+2,0,none⟩ (.slice Avq52 ((sl l Q q).length+1) cvq52)) (fun i h1 h2=>heap_setCell_other _ _ _ (by simp only;omega)) (by rw [size_setCell'];exact Nat.le_refl _))
        refine hK.out _ _ trivial (fun ht29=>?_)
        clear hK K
        try simp only [Act.put,lz3,lz4,lz5]
        refine wpAnyH_done (by kernel_rfl) ?_ _
        go_wp2
        go_roundw
        case rel=>
         obtain ⟨e1,e2,e3,e4⟩:=HX.out
         have hb:=Bq61.out
         have hq:=Qq62.out
         rw [e2] at hb
         rw [e3] at hq
         exact ⟨q+1,_,by omega,by omega,by rw [e4,HDD.out],hb,hq⟩
        case measure=>simp [Go.RowKit.intOf];omega
    case st21=>
     intro K hK
     go_simp
     obtain ⟨uq63,huq68⟩:∃ z,z=uq32.alloc (.cells #[.int .i64 DD,.slice SAq38 ns scq39] 62):=⟨_,rfl⟩
     have Nq64:Hid (Blk uq63 uq32.heap.size 62 #[.int .i64 DD,.slice SAq38 ns scq39]):=Lib.hid (by rw [huq68];exact Blk.new _ _ _)
     rw [← huq68]
     have hbq69:Below uq32.heap.size uq32 uq63:=by rw [huq68];exact (Below.refl _ uq32).alloc (Nat.le_refl _) _
     have Bq65:=Lib.hid (Bq36.out.more hbq69)
     have Qq66:=Lib.hid (Qq37.out.below hbq69)
     have SOq67:=Lib.hid (ownsRow_block Hhoq34.out (w':=uq63) fun g hg=>hbq69.block g (Hhoq34.out.lt g hg).2)
     have HShbq69:=Lib.hid hbq69.size
     clear huq68 hbq69
     refine hK.out _ _ trivial (fun ht30=>?_)
     clear hK K
     try simp only [Act.put,lz3,lz4,lz5]
     refine wpAnyH_ready (rs:=[1]) (by kernel_rfl) (by simp) ?_
     refine AllReadyH.cons (o:=?ot31) ?ht31 ?st31 AllReadyH.nil
     case ht31=>(simp only [lz0,lz1,lz2];rfl)
     case st31=>
      intro K hK
      have yq70:=Bq65.out.blk.cell 0
      simp only [lz0,lz1] at yq70
      go_simp
      clear yq70
      refine hK.out _ _ trivial (fun ht32=>?_)
      clear hK K
      try simp only [Act.put,lz3,lz4,lz5]
      refine wpAnyH_ready (rs:=[8]) (by kernel_rfl) (by simp) ?_
      refine AllReadyH.cons (o:=?ot33) ?ht33 ?st33 AllReadyH.nil
      case ht33=>(simp only [lz0,lz1,lz2];rfl)
      case st33=>
       intro K hK
       obtain ⟨Rq78,kq79,kq80,kq81⟩:=Qq66.out
       refine step_append_recK _ rfl (.tmp 35) (.tmp 41) 56 rfl (w.heap.size+3) 62 i1 _ 2 32 Tryz.underlying56 hi1 hy0 hy1 hy2 rfl (by decide) _ _ _ rfl kq80 ⟨uq32.heap.size,0,none⟩ 1 1 (docCells (DD,.slice SAq38 ns scq39)) rfl rfl (doc_src (p:=(DD,.slice SAq38 ns scq39)) Nq64.out) (doc_one _ _ _ _) (by unfold maxLen;omega) (by omega) (by have:=Bq65.out.blk.lt;omega) ?_
       intro vq75 uq71 hwq72 hgq73 hlq74
       have Bq76:=Lib.hid (Bq65.out.grown hgq73 (fun g hg=>(kq80.lt g hg).1))
       have Qq77:Hid (PostsO uq71 (w.heap.size+3) vq75 (sl l Q q++[x])):=Lib.hid (PostsO.push kq79 kq81 (p:=(DD,.slice SAq38 ns scq39)) ⟨HDD.out,by rw [← HDD.out];exact hfx,_,_,by simp only;rw [HNS.out],by rw [← HNS.out];exact rowCap_le SOq67.out,by
         rw [← HNS.out]
         exact PairsIn.ownTwo SOq67.out HNS.out.symm (by unfold maxLen;omega) (fun p hp=>HFP.out p hp),fun ad e h0=>by
         have q1:=SOq67.out.lt ad.block (by rw [e];rfl)
         refine ⟨q1.2,by have:=HB0.out.blk.lt;omega,fun e2=>?_⟩
         have q2:=(HOW.out _ e2)
         omega⟩ hwq72 hgq73 (by
         rcases hlq74 with e | e
         ·exact .inl e
         ·exact .inr ⟨_,e,Nat.le_refl _⟩))
       clear hwq72 hgq73 hlq74 kq79 kq80 kq81
       refine hK.out _ _ trivial (fun ht34=>?_)
       clear hK K
       try simp only [Act.put,lz3,lz4,lz5]
       refine wpAnyH_take (i:=9) (oi:=?oit359) (v:=?vt359) ?hit359 (by kernel_rfl) (by kernel_rfl) (by kernel_rfl) ?hQt359 (Or.inl ⟨?hwt359,?hyt359⟩) (by assumption) ?restt359
       case hit359=>(first | (simp only [lz0,lz1,lz2];rfl) | rfl)
       case hQt359=>exact fun _ _ _ h=>h
       case hwt359=>rfl
       case hyt359=>((intro w hSw;go_simp);first | done | with_reducible rfl)
       try simp only [Act.put,lz3,lz4,lz5]
       refine wpAnyH_ready (rs:=[10]) (by kernel_rfl) (by simp) ?_
       refine AllReadyH.cons (o:=?ot36) ?ht36 ?st36 AllReadyH.nil
       case ht36=>(simp only [lz0,lz1,lz2];rfl)
       case st36=>
        intro K hK
        have yq82:=Bq76.out.blk.cell 0
        have zq83:=Bq76.out.blk.frozen 0
        simp only [lz0,lz1] at yq82
        obtain ⟨Avq75,cvq75,evq75⟩:∃ A c,vq75=.slice A ((sl l Q q).length+1) c:=by
         obtain ⟨_,_,h1,_⟩:=Qq77.out
         have:=own_slice h1
         simpa using this
        subst evq75
        go_simp
        clear yq82 zq83
        have Bq84:=Lib.hid (Bq76.out.put (.slice Avq75 ((sl l Q q).length+1) cvq75))
        have Qq85:=Lib.hid (Qq77.out.keepIn (w':=uq71.setCell ⟨w.heap.size+2,0,none⟩ (.slice Avq75 ((sl l Q q).length+1) cvq75)) (fun i h1 h2=>heap_setCell_other _ _ _ (by simp only;omega)) (by rw [size_setCell'];exact Nat.le_refl _))
        refine hK.out _ _ trivial (fun ht37=>?_)
        clear hK K
        try simp only [Act.put,lz3,lz4,lz5]
        refine wpAnyH_done (by kernel_rfl) ?_ _
        go_wp2
        go_roundw
        case rel=>
         obtain ⟨e1,e2,e3,e4⟩:=HX.out
         have hb:=Bq84.out
         have hq:=Qq85.out
         rw [e2] at hb
         rw [e3] at hq
         exact ⟨q+1,_,by omega,by omega,by rw [e4,HDD.out],hb,hq⟩
        case measure=>simp [Go.RowKit.intOf];omega
  ·obtain rfl:q=E:=by omega
   have hz:n1=0:=by rw [← hxl,Nat.sub_self];rfl
   have d1:decide ((0:Int) < (n1:Int))=false:=decide_eq_false (by omega)
   have y1:=HR.out.blk.cell 0
   have y2:=HR.out.res.cell 0
   have z2:=HR.out.res.frozen 0
   simp only [lz0,lz1] at y1 y2
   obtain ⟨Av,nv,cv,rfl⟩:∃ A n c,vv=.slice A n c:=by
    obtain ⟨_,_,h1,_⟩:=HP.out
    obtain ⟨A,c,e⟩:=own_slice h1
    exact ⟨A,_,c,e⟩
   clear hxl
   go_wp2
   refine bodyPost_ret (results_cell_row rfl _ _ (w.heap.size+1) 143 #[.slice Av nv cv] (0,0) _ rfl ?_ Tryz.underlying143 rfl cblkCells) rfl ?_
   ·have:=HR.out.res.set_ 0 (.slice Av nv cv)
    unfold Blk at this
    simpa using this
   ·refine ⟨_,rfl,(HP.out.keepIn (fun i h1 h2=>heap_setCell_other _ _ _ (by simp only;omega)) (by rw [size_setCell'];exact Nat.le_refl _)).le (by omega),HR.out.below.setCell (p:=⟨w.heap.size+1,0,none⟩) (by simp only;omega) _⟩
end Go.Proofs.YthcjikpabpgpfaaGreat
