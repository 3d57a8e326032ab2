import Derived.Test.YthcjikpabpgpfaaGreatZp0
import Derived.Test.YthcjikpabpgpfaaGreatZp21
import Derived.Test.YthcjikpabpgpfaaGreatZp5
import Derived.Deep.LoopGhost
import Derived.Deep.DeepCutAuto
import Derived.Deep.QuietTactic
import Derived.BigQuiet
set_option linter.unusedSimpArgs false
set_option maxHeartbeats 16000000
set_option maxRecDepth 100000
namespace Go.Proofs.YthcjikpabpgpfaaGreat
open Go.RowKit Go.Maps Go.WideMaps
theorem posts_size (w:World):(sizeOf (Tryz.prog.elem 56)).run Tryz.prog w=.ok 2 w:=by
 obtain ⟨i0,hi,hz0,hz1,hz2⟩:=info_parts postInfo
 rw [show Tryz.prog.elem 56=62 by kernel_rfl,run_sizeOf w hi]
 unfold Program.cellsOf
 rw [hi]
 simp [hz1]
theorem posts_from (w:World) (A:Option Addr) (n c p:Nat) (hp:p≤n):(Instr.slice 56 (.slice A n c) (some (.int .i64 p)) none none).run Tryz.prog w=.ok (.slice (cutAddr2 A p c) (n - p) (c - p)) w:=by
 rw [run_slice_l (P:=Tryz.prog) (w:=w) 56 A n c Tryz.underlying56 .i64 p (by omega) (by omega),posts_size]
 simp [Result.andThen,sliced,cutAddr2]
theorem cLess_any (w:World) (g:Nat) (d x:Int) (hg:Blk w g 2 #[.int .i64 d]) (B:Option Addr) (k c:Nat):Calls Tryz.prog 191 #[.agg #[.int .i64 x,.slice B k c],.pointer (some ⟨g,0,none⟩)] w fun e w'=>e=.returned (.bool (decide (d≤x)))∧Below w.heap.size w w':=by
 have HB:=Lib.hid ((Below.refl w.heap.size w).alloc (Nat.le_refl _) (.cells #[.int .i64 x,.slice B k c] 62))
 have c0:=(hg.alloc (.cells #[.int .i64 x,.slice B k c] 62)).cell 0
 simp only [lz0,lz1] at c0
 clear hg
 go_enter Tryz.func191,Tryz.ntmps191
 go_wp2
 go_ret
 exact ⟨rfl,HB.out⟩
def IdxD (l:List Pst) (d:Int) (n:Nat) (r:Int):Prop:=(r=-1∧∀ i,i < n→(pAt l i).1 < d)∨∃ k:Nat,r=k∧k < n∧(∀ i,i < k→(pAt l i).1 < d)∧d≤(pAt l k).1
theorem cIdx_any (w:World) (A:Option Addr) (n c:Nat) (l:List Pst) (h:PostsSee w A n l) (hn:n≤4096) (g:Nat) (d:Int) (hg:Blk w g 2 #[.int .i64 d]):
  Calls Tryz.prog 172 #[.slice A n c,.func (.func 191) #[] #[.pointer (some ⟨g,0,none⟩)]] w fun e w'=>∃ r:Int,e=.returned (.int .i64 r)∧IdxD l d n r∧Below w.heap.size w w':=by
 have HP:=Lib.hid h
 have HG:=Lib.hid hg
 clear h hg
 go_enter Tryz.func172,Tryz.ntmps172
 go_wp2
 go_loopw [8] (fun i wr=>∃ k:Nat,k≤n∧i=.int .i64 k∧(∀ i,i < k→(pAt l i).1 < d)∧Below w.heap.size w wr) (fun i _=>n - (Go.RowKit.intOf i).toNat)
 case atStart=>exact ⟨0,by omega,rfl,(fun i hi=>by omega),Below.refl _ _⟩
 case round=>
  obtain ⟨k,hk,rfl,hmu,hB⟩:=hrel
  have HMU:=Lib.hid hmu
  have HB:=Lib.hid hB
  have HGR:=Lib.hid (HG.out.below hB HG.out.lt)
  clear hmu hB
  rcases Nat.lt_or_ge k n with hlt | hge
  ·have hlt':(k:Int) < (n:Int):=by omega
   have p0:(0:Int)≤(k:Int):=by omega
   have hw5:IntKind.i64.wrap ((k:Int)+1)=(k:Int)+1:=IntWalk.i64_in _ (by omega)
   obtain ⟨pa,x,SA,da,rfl,hx,-,a0,a1,-,-⟩:=(HP.out.below HB.out).at k hlt
   have HPX:=Lib.hid (pAt_eq hx)
   obtain ⟨x1,x2⟩:=x
   simp only at a0 a1
   obtain ⟨m,hm⟩:∃ m,m=x2.length:=⟨_,rfl⟩
   rw [← hm] at a1
   clear hx hm
   go_wp2_with fail
   refine (cLess_any wr g d x1 HGR.out SA m da).mono ?_
   rintro e w2 ⟨rfl,hb2⟩
   have HB2:=Lib.hid (below_then HB.out hb2 HB.out.size)
   clear hb2
   by_cases hsp:d≤x1
   ·have d1:decide (d≤x1)=true:=decide_eq_true hsp
    have hfin:IdxD l d n (k:Int):=.inr ⟨k,rfl,hlt,HMU.out,by rw [HPX.out];exact hsp⟩
    have HF:=Lib.hid hfin
    rw [d1]
    clear hfin
    go_wp2
    go_ret
    exact ⟨_,rfl,HF.out,HB2.out⟩
   ·have d1:decide (d≤x1)=false:=decide_eq_false hsp
    have hnx:∀ i,i < k+1→(pAt l i).1 < d:=fun i hi=>by
     rcases Nat.lt_or_ge i k with h1 | h1
     ·exact HMU.out i h1
     ·obtain rfl:i=k:=by omega
      rw [HPX.out]
      simp only
      omega
    have HNX:=Lib.hid hnx
    rw [d1]
    clear hnx d1
    go_wp2
    go_roundw
    case rel=>exact ⟨k+1,by omega,by go_num,HNX.out,HB2.out⟩
    case measure=>simp [Go.RowKit.intOf];omega
  ·obtain rfl:k=n:=by omega
   have hlz:¬ ((k:Int) < (k:Int)):=by omega
   go_wp2
   go_ret
   exact ⟨_,rfl,.inl ⟨rfl,HMU.out⟩,HB.out⟩
def SkipIn (po:List Pst) (d:Int) (t:Bool) (po':List Pst):Prop:=(t=false∧(∀ i,i < po.length→(pAt po i).1 < d)∧po'=[])∨(t=true∧∃ k,k < po.length∧(∀ i,i < k→(pAt po i).1 < d)∧d≤(pAt po k).1∧po'=po.drop k)
theorem cBskip_any {w:World} {F:Nat→Prop} {b:Nat} {po:List Pst} {lf:Nm} {la P N r:Int} (h:CuRaw w F b po lf la P N r) (d:Int) (hpl:po.length≤4096):
  Calls Tryz.prog 161 #[at0 b,.int .i64 d] w fun e w'=>∃ t po',e=.returned (.bool t)∧SkipIn po d t po'∧CuRaw w' F b po' lf la P N r∧Kept (fun i=>i=b) w w':=by
 obtain ⟨W1,hW1⟩:∃ W1,W1=w.alloc (.cells #[.int .i64 d] 2):=⟨_,rfl⟩
 have hb1:Below w.heap.size w W1:=by rw [hW1];exact (Below.refl _ w).alloc (Nat.le_refl _) _
 have hT1:Blk W1 w.heap.size 2 #[.int .i64 d]:=by rw [hW1];exact Blk.new _ _ _
 obtain ⟨A,n,c,L,m,k,q1,q2⟩:=h.below hb1
 have hpn:=q2.po.1.len
 have HIDX:=Lib.hid (cIdx_any W1 A n c po q2.po.1 (by omega) w.heap.size d hT1)
 have HB1:=Lib.hid hb1
 have HQ1:=Lib.hid q1
 have HQ2:=Lib.hid q2
 have c0:=q1.cell 0
 simp only [lz0,lz1] at c0
 rw [hW1] at c0
 have HW1:=Lib.hid hW1
 have HPN:=Lib.hid hpn
 have hcap:=q2.cap
 clear h hb1 hT1 q1 q2 hW1 hpn hpl
 unfold at0
 go_enter Tryz.func161,Tryz.ntmps161
 go_wp2_with fail
 rw [← HW1.out]
 refine HIDX.out.mono ?_
 rintro e w2 ⟨r',rfl,hi,hb2⟩
 have HB2:=Lib.hid hb2
 have HQ12:=Lib.hid (HQ1.out.below hb2 HQ1.out.lt)
 have HQ22:=Lib.hid (HQ2.out.kept (Kept.below hb2))
 have y0:=HQ12.out.cell 0
 have z0:=HQ12.out.frozen 0
 simp only [lz0,lz1] at y0
 have HK2:=Lib.hid (cu_then (Kept.below (F:=fun i=>i=b) HB1.out) (Kept.below hb2))
 clear hb2 c0
 rcases hi with ⟨rfl,hall⟩ | ⟨K,rfl,hK,hless,hhere⟩
 ·have HA:=Lib.hid hall
  clear hall
  go_wp2
  go_ret
  obtain ⟨W3,hW3⟩:∃ W3,W3=w2.setCell ⟨b,0,none⟩ (.slice none 0 0):=⟨_,rfl⟩
  have hk3:Kept (fun i=>i=b) w2 W3:=by rw [hW3];exact cu_set (Kept.refl _ w2) 0 _
  have hb3:=HQ12.out.set_ 0 (.slice none 0 0)
  rw [← hW3] at hb3 ⊢
  have h3:=HQ22.out.kept hk3
  exact ⟨false,[],rfl,.inl ⟨rfl,by rw [HPN.out];exact HA.out,rfl⟩,⟨none,0,0,L,m,k,by simpa using hb3,⟨PostsF.nil _ _,Nat.le_refl _,h3.lf,h3.room,h3.own,h3.low⟩⟩,cu_then HK2.out hk3⟩
 ·have d1:decide ((K:Int) < 0)=false:=decide_eq_false (by omega)
  have HA:=Lib.hid hless
  have HH:=Lib.hid hhere
  have hsl:=fun w=>posts_from w A n c K (by omega)
  clear hless hhere
  go_wp2
  go_ret
  obtain ⟨W3,hW3⟩:∃ W3,W3=w2.setCell ⟨b,0,none⟩ (.slice (cutAddr2 A K c) (n - K) (c - K)):=⟨_,rfl⟩
  have hk3:Kept (fun i=>i=b) w2 W3:=by rw [hW3];exact cu_set (Kept.refl _ w2) 0 _
  have hb3:=HQ12.out.set_ 0 (.slice (cutAddr2 A K c) (n - K) (c - K))
  rw [← hW3] at hb3 ⊢
  have h3:=HQ22.out.kept hk3
  exact ⟨true,po.drop K,rfl,.inr ⟨rfl,K,by rw [HPN.out];exact hK,HA.out,HH.out,rfl⟩,⟨_,_,_,L,m,k,by simpa using hb3,⟨h3.po.cut h3.cap (by omega),by omega,h3.lf,h3.room,h3.own,h3.low⟩⟩,cu_then HK2.out hk3⟩
structure EnIn (w wr:World) (F:Nat→Prop) (b g:Nat) (po:List Pst) (lf:Nm) (la P N r:Int) (x y:Int) (A:Option Addr) (n:Nat) (L:List Int):Prop where
 cu:CuRaw wr F b po lf la P N r
 part:Blk wr g 270 #[.int .i64 x,.int .i64 y]
 ints:IntsIn wr A n L
 far:∀ ad,A=some ad→g < ad.block
 new:w.heap.size≤g
 near:∀ i,F i→i < g
 kept:Kept (fun i=>i=b) w wr
theorem ints_far {w w':World} {A:Option Addr} {n:Nat} {L:List Int} (h:IntsIn w A n L) (hk:∀ ad,A=some ad→w'.heap[ad.block]?=w.heap[ad.block]?) (hs:w.heap.size≤w'.heap.size):IntsIn w' A n L:=
 ⟨h.1,h.2.1.keep fun ad e _=>hk ad e,h.2.2.1,fun ad e h0=>Nat.lt_of_lt_of_le (h.2.2.2 ad e h0) hs⟩
theorem EnIn.step {w wr w':World} {F:Nat→Prop} {b g:Nat} {po:List Pst} {lf lf':Nm} {la P N r la' P':Int} {x y:Int} {A:Option Addr} {n:Nat} {L:List Int} (hn:0 < n) (h:EnIn w wr F b g po lf la P N r x y A n L) (hc:CuRaw w' F b po lf' la' P' N r) (hk:Kept (fun i=>i=b) wr w'):EnIn w w' F b g po lf' la' P' N r x y A n L where
 cu:=hc
 part:=h.part.kept hk (by have:=h.near b h.cu.low.1;omega)
 ints:=ints_far h.ints (fun ad e=>hk.block _ (h.ints.2.2.2 ad e hn) (by have:=h.near b h.cu.low.1;have:=h.far ad e;omega)) hk.size
 far:=h.far
 new:=h.new
 near:=h.near
 kept:=cu_then h.kept hk
theorem EnIn.put {w wr:World} {F:Nat→Prop} {b g:Nat} {po:List Pst} {lf:Nm} {la P N r:Int} {x y:Int} {A:Option Addr} {n:Nat} {L:List Int} (h:EnIn w wr F b g po lf la P N r x y A n L) (x' y':Int):EnIn w ((wr.setCell ⟨g,0,none⟩ (.int .i64 x')).setCell ⟨g,1,none⟩ (.int .i64 y')) F b g po lf la P N r x' y' A n L where
 cu:=h.cu.all (fun i hi=>by have:=h.near i hi;rw [heap_setCell_other _ _ _ (by simp only;omega),heap_setCell_other _ _ _ (by simp only;omega)]) (by rw [size_setCell',size_setCell'];exact Nat.le_refl _)
 part:=by simpa using (h.part.set_ 0 (.int .i64 x')).set_ 1 (.int .i64 y')
 ints:=ints_far h.ints (fun ad e=>by have:=h.far ad e;rw [heap_setCell_other _ _ _ (by simp only;omega),heap_setCell_other _ _ _ (by simp only;omega)]) (by rw [size_setCell',size_setCell'];exact Nat.le_refl _)
 far:=h.far
 new:=h.new
 near:=h.near
 kept:=(h.kept.setCell (p:=⟨g,0,none⟩) (.inr h.new) _).setCell (p:=⟨g,1,none⟩) (.inr h.new) _
def leftJ (l:List Pst) (P:Nat):Nat→Nm
 | 0=>restP l P
 | 1=>restI l P
 | _=>inB l P++restP l (P+4)
def mJ (j:Nat):Nat:=if j=0 then 16 else 4
def partJ (l:List Pst) (P j:Nat):Nm:=if j=0 then inG l P else inB l P
theorem leftJ_head {l:List Pst} {P j:Nat} (h:P < l.length) (hj:j < 2) (h0:j=0→P % 16=0):leftJ l P j=putL (gapP l P (mJ j))++(putL (partJ l P j).length++leftJ l P (j+1)):=by
 match j with
 | 0=>exact head_group h (h0 rfl)
 | 1=>exact head_block h
theorem leftJ_pass {l:List Pst} {P j:Nat} (h:P < l.length) (hj:j < 2) (h0:j=0→P % 16=0):leftJ l P (j+1)=partJ l P j++restP l (P+mJ j):=by
 match j with
 | 0=>exact group_rest h (h0 rfl)
 | 1=>rfl
theorem partJ_len {l:List Pst} (hV:ValidP l) {P j:Nat} (h:P < l.length):(partJ l P j).length < 2 ^ 40:=by
 have h1:=inG_len hV h
 have h2:=inB_len hV h
 unfold partJ
 split <;> omega
theorem mJ_in (j:Nat):0 < mJ j∧mJ j≤16∧mJ j % 4=0:=by
 unfold mJ
 split <;> omega
theorem BytesF.mono {w:World} {F G:Nat→Prop} {A:Option Addr} {n:Nat} {l:Nm} (h:BytesF w F A n l) (hk:∀ i,F i→G i):BytesF w G A n l:=⟨h.1,fun ad e h0=>hk _ (h.2 ad e h0)⟩
def EnterOut (w:World) (F:Nat→Prop) (b:Nat) (l:List Pst) (po:List Pst) (P0 r:Nat) (d:Int) (e:Ending) (w':World):Prop:=
 (e=.returned (.bool true)∧∃ P F',P0≤P∧P % 4=0∧P < l.length∧(∀ i,P0≤i→i < P→(pAt l i).1 < d)∧d≤lastD l (endP l P 4)∧CuRaw w' F' b (sl l P (endP l P 4)) (restP l (P+4)) (lastD l (endP l P 4)) (P+4:Nat) l.length (r+1:Nat)∧Kept F w w'∧∀ i,F' i→F i∨w.heap.size≤i)∨
 (e=.returned (.bool false)∧∃ P,l.length≤P∧P % 4=0∧P≤l.length+16∧(∀ i,P0≤i→i < l.length→(pAt l i).1 < d)∧CuRaw w' F b po (restP l P) (lastD l (min P l.length)) P l.length r∧Kept F w w')
theorem cEnter_any {w:World} {F:Nat→Prop} {b:Nat} {l po:List Pst} (hV:ValidP l) {P0 r:Nat} (h:CuRaw w F b po (restP l P0) (lastD l (min P0 l.length)) P0 l.length r) (h4:P0 % 4=0) (h16:P0≤l.length+16) (hr:r≤10000) (d:Int):
  Calls Tryz.prog 162 #[at0 b,.int .i64 d] w (EnterOut w F b l po P0 r d):=by
 obtain ⟨N,hN⟩:∃ N,N=l.length:=⟨_,rfl⟩
 have hN4:=hV.few
 rw [← hN] at hN4 h16
 have HV:=Lib.hid hV
 have HH:=Lib.hid h
 have HNN:=Lib.hid hN
 clear h hV
 rw [← hN] at HH
 clear hN
 unfold at0
 go_enter Tryz.func162,Tryz.ntmps162
 go_wp2
 go_step3
 go_wp2
 go_step3
 go_wp2
 go_loopg [] (5000 - P0) (fun g wr=>∃ P:Nat,g=5000 - P∧P0≤P∧P % 4=0∧P≤N+16∧(∀ i,P0≤i→i < min P N→(pAt l i).1 < d)∧CuRaw wr F b po (restP l P) (lastD l (min P N)) P N r∧Kept (fun i=>i=b) w wr)
 case atStart=>exact ⟨P0,rfl,Nat.le_refl _,h4,h16,(fun i h1 h2=>by omega),HH.out,Kept.refl _ _⟩
 case round=>
  obtain ⟨P,hg,hP0,hP4,hP16,hless,hC,hK⟩:=hrel
  have HL:=Lib.hid hless
  have HC:=Lib.hid hC
  have HK:=Lib.hid hK
  have hbl:=hC.lt
  have hkz:=hK.size
  obtain ⟨A0,n0,c0,L0,m0,k0,q1,q2⟩:=hC
  have c3:∀ q,(wr.drewN q).cell? ⟨b,3,none⟩=some (.int .i64 (P:Int)):=fun q=>by simpa using (q1.drewN q).cell 3
  have c4:∀ q,(wr.drewN q).cell? ⟨b,4,none⟩=some (.int .i64 (N:Int)):=fun q=>by simpa using (q1.drewN q).cell 4
  clear hless hK q1 q2
  by_cases hlt:P < N
  ·have d1:decide ((P:Int) < (N:Int))=true:=decide_eq_true (by omega)
   have p1:(P:Int) < (N:Int):=by omega
   go_wp2
   go_quiet (fail)
   clear c3 c4
   obtain ⟨wo,hwo⟩:∃ wo,wo=(wr.drewN nq).alloc (.cells #[.int .i64 0,.int .i64 0] 270):=⟨_,rfl⟩
   have hbo:Below wr.heap.size wr wo:=by rw [hwo];exact (below_drewN (Below.refl _ wr) nq).alloc (Nat.le_refl _) _
   have hT:Blk wo wr.heap.size 270 #[.int .i64 0,.int .i64 0]:=by rw [hwo];exact Blk.new (wr.drewN nq) _ _
   have hCo:=HC.out.below hbo
   have hso:wr.heap.size < wo.heap.size:=hT.lt
   have hbeg:=cBegins_any hCo
   unfold at0 at hbeg
   have HWO:=Lib.hid hwo
   have HBO:=Lib.hid hbo
   have HT:=Lib.hid hT
   have HBEG:=Lib.hid hbeg
   clear hwo hbo hT hCo hbeg
   go_wp2_with fail
   rw [← HWO.out]
   refine HBEG.out.mono ?_
   rintro e w2 ⟨LA,n,LC,L,rfl,hI,hb2,hLL,hLf⟩
   obtain ⟨g,hgg⟩:∃ g,g=wr.heap.size:=⟨_,rfl⟩
   rw [← hgg] at HT hso hbl
   have hmin:min P N=P:=by omega
   have hN0:n=L.length:=(IntsIn.len hI).symm
   obtain ⟨e0,he0⟩:∃ e0,e0=2 - n:=⟨_,rfl⟩
   have hn2:(P % 16=0→n=2)∧(P % 16≠0→n=1):=by
    rw [hN0,hLL]
    constructor
    ·intro h;rw [if_pos h];rfl
    ·intro h;rw [if_neg h];rfl
   have hn3:0 < n∧n≤2:=by
    by_cases h:P % 16=0
    ·have:=hn2.1 h;omega
    ·have:=hn2.2 h;omega
   have hLat:∀ j,e0≤j→j < 2→L[j - e0]?=some (mJ j:Int)∧(j=0→P % 16=0):=by
    intro j h1 h2
    by_cases h:P % 16=0
    ·have h3:=hn2.1 h
     rw [hLL,if_pos h]
     refine ⟨?_,fun _=>h⟩
     match j with
     | 0=>simp [mJ]
     | 1=>rw [he0,h3];rfl
    ·have h3:=hn2.2 h
     rw [hLL,if_neg h]
     have:j=1:=by omega
     subst this
     exact ⟨by rw [he0,h3];rfl,fun e=>by omega⟩
   have hEn:EnIn w w2 F b g po (leftJ l P e0) (lastD l P) P N r 0 0 LA n L:={
    cu:=by
     have h1:=(HC.out.below HBO.out).below hb2
     rw [hmin] at h1
     have h2:leftJ l P e0=restP l P:=by
      by_cases h:P % 16=0
      ·have h3:=hn2.1 h
       rw [he0,h3];rfl
      ·have h3:=hn2.2 h
       rw [he0,h3,rest_here (by rw [← HNN.out];exact hlt) hP4 h];rfl
     rw [h2];exact h1
    part:=HT.out.below hb2 hso
    ints:=hI
    far:=fun ad e=>by have:=hLf ad e;omega
    new:=by rw [hgg];exact hkz
    near:=fun i hi=>by rw [hgg];exact HC.out.low.2 i hi
    kept:=cu_then (cu_then HK.out (Kept.below HBO.out)) (Kept.below hb2) }
   have HEN:=Lib.hid hEn
   have HLAT:=Lib.hid hLat
   have hV:=HV.out
   have hPl:P < l.length:=by rw [← HNN.out];exact hlt
   have hlaP:=hV.last (i:=P) (by omega)
   obtain ⟨la,hla⟩:∃ la,la=lastD l P:=⟨_,rfl⟩
   rw [← hla] at hlaP HEN
   have HLA:=Lib.hid hla
   have HV:=Lib.hid hV
   have HGK:=Lib.hid hg
   have HGG:=Lib.hid hgg
   have HPL:=Lib.hid hPl
   clear hI hb2 hLL hLf hEn hLat hV hla hN0 hg hPl hmin hgg hso hbl hkz hn2
   obtain ⟨wx,hwx⟩:∃ z,z=wr:=⟨_,rfl⟩
   subst hwx
   go_wp2
   rw [← HGG.out]
   go_loopg [20] (2 - e0) (fun k i wi=>∃ (j:Nat) (x y:Int),e0≤j∧j≤2∧k=2 - j∧i=.int .i64 ((j - e0:Nat):Int)∧(j=2→x=lastD l (endP l P 4)∧y=((inB l P).length:Int)∧d≤x)∧EnIn w wi F b g po (leftJ l P j) la P N r x y LA n L)
   case atStart=>exact ⟨e0,0,0,Nat.le_refl _,by omega,rfl,by rw [Nat.sub_self];rfl,(fun e=>by omega),HEN.out⟩
   case round=>
    obtain ⟨j,x,y,hj1,hj2,hgk,rfl,hxy,hE⟩:=hrel
    obtain ⟨I,hI⟩:∃ I,I=j - e0:=⟨_,rfl⟩
    rw [← hI]
    have HE:=Lib.hid hE
    have HXY:=Lib.hid hxy
    have hbg:=hE.near b hE.cu.low.1
    obtain ⟨A,nA,cA,L1,m1,k1,q1,q2⟩:=hE.cu
    have HQ1:=Lib.hid q1
    have HQ2:=Lib.hid q2
    have HGI:=Lib.hid hgk
    clear hE hxy q1 q2 hgk
    rcases Nat.lt_or_ge j 2 with hlt2 | hge2
    ·obtain ⟨hL1,hj0⟩:=HLAT.out j hj1 hlt2
     rw [← hI] at hL1
     have hIn:I < n:=by omega
     have hIn':(I:Int) < (n:Int):=by omega
     have pI:(0:Int)≤(I:Int):=by omega
     obtain ⟨pL,z,hpL,hz,a0,-,-⟩:=HE.out.ints.at I hIn
     obtain rfl:=Option.some.inj (hL1.symm.trans hz)
     have hgap:=gap_is HV.out HPL.out (mJ_in j).1
     have hhead:=cHead_any HE.out.cu (u:=gapP l P (mJ j)) (v:=(partJ l P j).length) (rest:=leftJ l P (j+1)) hlaP.1 hlaP.2 hgap.2 (partJ_len HV.out HPL.out) (leftJ_head HPL.out hlt2 hj0) (t:=lastD l (endP l P (mJ j))) (by rw [HLA.out];exact hgap.1)
     unfold at0 at hhead
     have HHEAD:=Lib.hid hhead
     have HPASS:=Lib.hid (leftJ_pass HPL.out hlt2 hj0)
     have HMJ:=Lib.hid (mJ_in j)
     have HLESS:=Lib.hid (fun h=>less_part HV.out (m:=mJ j) (d:=d) HPL.out (mJ_in j).1 h)
     have HJ0:=Lib.hid (show j=1→endP l P (mJ j)=endP l P 4∧partJ l P j=inB l P from fun e=>by subst e;exact ⟨rfl,rfl⟩)
     obtain ⟨t,ht⟩:∃ t,t=lastD l (endP l P (mJ j)):=⟨_,rfl⟩
     rw [← ht] at HHEAD HLESS
     have HTT:=Lib.hid ht
     obtain ⟨v,hv⟩:∃ v,v=(partJ l P j).length:=⟨_,rfl⟩
     rw [← hv] at HHEAD
     have HVV:=Lib.hid hv
     obtain ⟨M,hM⟩:∃ M,M=mJ j:=⟨_,rfl⟩
     rw [← hM] at a0 HPASS HMJ HLESS HTT
     have HM:=Lib.hid hM
     have HI:=Lib.hid hI
     subst hpL
     have hw5:IntKind.i64.wrap ((I:Int)+1)=(I:Int)+1:=IntWalk.i64_in _ (by omega)
     clear hL1 hz hgap hhead ht hv hj0 hM hI
     go_wp2_with fail
     refine HHEAD.out.mono ?_
     rintro e w3 ⟨rfl,hc3,hk3⟩
     have HE3:=Lib.hid (HE.out.step hn3.1 hc3 hk3)
     have y0:=HE3.out.part.cell 0
     have y1:=HE3.out.part.cell 1
     have z0:=HE3.out.part.frozen 0
     have z1:=HE3.out.part.frozen 1
     simp only [lz0,lz1,lz2] at y0 y1
     obtain ⟨w4,hw4⟩:∃ w4,w4=(w3.setCell ⟨g,0,none⟩ (.int .i64 t)).setCell ⟨g,1,none⟩ (.int .i64 v):=⟨_,rfl⟩
     have HE4:=Lib.hid (HE3.out.put t v)
     rw [← hw4] at HE4
     have HW4:=Lib.hid hw4
     clear hc3 hk3 hw4 a0
     go_upto_region 7 with fail
     rw [← HW4.out]
     clear y0 y1 z0 z1
     have y0:=HE4.out.part.cell 0
     have y1:=HE4.out.part.cell 1
     simp only [lz0,lz1,lz2] at y0 y1
     by_cases htd:t < d
     ·have d2:decide (t < d)=true:=decide_eq_true htd
      have hvl:v≤(leftJ l P (j+1)).length:=by rw [HPASS.out,HVV.out,List.length_append];omega
      have hdrop:(leftJ l P (j+1)).drop v=restP l (P+M):=by rw [HPASS.out,HVV.out,List.drop_left]
      have hpass:=cPass_any HE4.out.cu (t:=t) (v:=v) (mm:=M) hvl (by omega) (by omega) (by omega) (by have:=HMJ.out;omega)
      rw [hdrop] at hpass
      unfold at0 at hpass
      have HPA:=Lib.hid hpass
      clear hvl hdrop hpass
      go_wp2_with fail
      refine HPA.out.mono ?_
      rintro e w5 ⟨rfl,hc5,hk5⟩
      have HC5:=Lib.hid hc5
      have HK5:=Lib.hid (cu_then HE4.out.kept hk5)
      clear hc5 hk5
      go_wp2
      go_roundg (5000 - (P+M))
      case rel=>
       have h1:=HMJ.out
       have h2:=HLESS.out htd
       have h3:=HNN.out
       refine ⟨P+M,rfl,by omega,by omega,by omega,fun i i1 i2=>h2 i (by unfold endP;omega),?_,HK5.out⟩
       have h4:=HC5.out
       rw [show lastD l (min (P+M) N)=t by rw [HTT.out,h3,lastD_end]]
       simpa using h4
      all_goals (have:=HMJ.out;have:=HGK.out;omega)
     ·have d2:decide (t < d)=false:=decide_eq_false htd
      go_wp2
      go_roundg (2 - (j+1))
      case rel=>
       refine ⟨j+1,t,v,by omega,by omega,rfl,by have:=HI.out;go_num,fun e=>?_,HE4.out⟩
       obtain ⟨h1,h2⟩:=HJ0.out (by omega)
       refine ⟨by rw [HTT.out,HM.out,h1],by rw [HVV.out,h2],by omega⟩
      all_goals (have:=HGI.out;omega)
    ·have hj:j=2:=by omega
     subst hj
     have hIn:I=n:=by omega
     have hIl:¬ ((I:Int) < (n:Int)):=by omega
     have dI:decide ((I:Int) < (n:Int))=false:=decide_eq_false (by omega)
     obtain ⟨hx,hy,hxd⟩:=HXY.out rfl
     obtain ⟨sz,hsz⟩:∃ sz,sz=(inB l P).length:=⟨_,rfl⟩
     rw [← hsz] at hy
     subst hy
     have hm1:(leftJ l P 2).length=m1:=by have:=HQ2.out.lf.1.2.1.len;simpa using this
     have hcat:leftJ l P 2=inB l P++restP l (P+4):=rfl
     have hsm:sz≤m1:=by rw [← hm1,hcat,List.length_append];omega
     have hmk:=HQ2.out.room
     have htk:(leftJ l P 2).take sz=inB l P:=by rw [hcat,hsz,List.take_left]
     have hE4:endP l P 4≤l.length:=by unfold endP;omega
     have hPE:P≤endP l P 4:=by have:=HPL.out;unfold endP;omega
     obtain ⟨u0,hu0⟩:∃ u0,u0=wr.drew:=⟨_,rfl⟩
     have hb0:Below wr.heap.size wr u0:=by rw [hu0];exact (Below.refl _ wr).drew
     have hby:=(HQ2.out.lf.1.below hb0).upto sz hsm
     rw [htk] at hby
     have hread:=cRead_any u0 L1 sz k1 HV.out hPE hE4 hby (by omega) (by omega) (d0:=la) HLA.out
     have HREAD:=Lib.hid hread
     have hsl:=fun w=>slice_to w L1 m1 k1 sz (by omega)
     have x1:=HQ1.out.cell 1
     have x2:=HQ1.out.cell 2
     have x3:=HE.out.part.cell 1
     simp only [lz0,lz1,lz2] at x1 x2 x3
     have HB0:=Lib.hid hb0
     have HU0:=Lib.hid hu0
     have HX:=Lib.hid hx
     have HXD:=Lib.hid hxd
     have HSZ:=Lib.hid hsz
     have HCAT:=Lib.hid hcat
     have HI:=Lib.hid hI
     have hEx:∀ (X:Value) (u:World),Blk u b 145 #[X,.slice L1 m1 k1,.int .i64 la,.int .i64 P,.int .i64 N,.int .i64 r]→u.cell? ⟨g,1,none⟩=some (.int .i64 (sz:Int))→u.cell? ⟨b,1,none⟩=some (.slice L1 m1 k1)∧u.cell? ⟨g,1,none⟩=some (.int .i64 (sz:Int))∧u.cell? ⟨b,2,none⟩=some (.int .i64 la):=fun X u h1 h2=>⟨by simpa using h1.cell 1,h2,by simpa using h1.cell 2⟩
     have HEX:=Lib.hid hEx
     clear hb0 hu0 hby htk hread hx hxd hm1 hsz hcat hI hEx hE4 hPE
     go_wp2_with fail
     refine wp_region_held_drew (S:=fun w'=>w'.cell? ⟨b,1,none⟩=some (.slice L1 m1 k1)∧w'.cell? ⟨g,1,none⟩=some (.int .i64 (sz:Int))∧w'.cell? ⟨b,2,none⟩=some (.int .i64 la)) (by kernel_rfl) ?_ (fun hHeld=>?_)
     ·exact ⟨x1,x3,x2⟩
     rw [← HU0.out] at hHeld ⊢
     refine wpAnyH_take (i:=0) (oi:=?oit0) (v:=?vt0) ?hit0 (by kernel_rfl) (by kernel_rfl) (by kernel_rfl) ?hQt0 (Or.inl ⟨?hwt0,?hyt0⟩) (by assumption) ?restt0
     case hit0=>(first | (simp only [lz0,lz1,lz2];rfl) | rfl)
     case hQt0=>exact fun _ _ _ h=>h
     case hwt0=>rfl
     case hyt0=>((intro w hSw;obtain ⟨hS1,hS2,hS3⟩:=hSw;go_simp);first | done | with_reducible rfl)
     try simp only [Act.put,lz3,lz4,lz5]
     refine wpAnyH_take (i:=1) (oi:=?oit1) (v:=?vt1) ?hit1 (by kernel_rfl) (by kernel_rfl) (by kernel_rfl) ?hQt1 (Or.inl ⟨?hwt1,?hyt1⟩) (by assumption) ?restt1
     case hit1=>(first | (simp only [lz0,lz1,lz2];rfl) | rfl)
     case hQt1=>exact fun _ _ _ h=>h
     case hwt1=>rfl
     case hyt1=>((intro w hSw;obtain ⟨hS1,hS2,hS3⟩:=hSw;go_simp);first | done | with_reducible rfl)
     try simp only [Act.put,lz3,lz4,lz5]
     refine wpAnyH_take (i:=2) (oi:=?oit2) (v:=?vt2) ?hit2 (by kernel_rfl) (by kernel_rfl) (by kernel_rfl) ?hQt2 (Or.inl ⟨?hwt2,?hyt2⟩) (by assumption) ?restt2
     case hit2=>(first | (simp only [lz0,lz1,lz2];rfl) | rfl)
     case hQt2=>exact fun _ _ _ h=>h
     case hwt2=>rfl
     case hyt2=>((intro w hSw;obtain ⟨hS1,hS2,hS3⟩:=hSw;go_simp);first | done | with_reducible rfl)
     try simp only [Act.put,lz3,lz4,lz5]
     refine wpAnyH_take (i:=3) (oi:=?oit3) (v:=?vt3) ?hit3 (by kernel_rfl) (by kernel_rfl) (by kernel_rfl) ?hQt3 (Or.inl ⟨?hwt3,?hyt3⟩) (by assumption) ?restt3
     case hit3=>(first | (simp only [lz0,lz1,lz2];rfl) | rfl)
     case hQt3=>exact fun _ _ _ h=>h
     case hwt3=>rfl
     case hyt3=>((intro w hSw;obtain ⟨hS1,hS2,hS3⟩:=hSw;go_simp);first | done | with_reducible rfl)
     try simp only [Act.put,lz3,lz4,lz5]
     refine wpAnyH_take (i:=4) (oi:=?oit4) (v:=?vt4) ?hit4 (by kernel_rfl) (by kernel_rfl) (by kernel_rfl) ?hQt4 (Or.inl ⟨?hwt4,?hyt4⟩) (by assumption) ?restt4
     case hit4=>(first | (simp only [lz0,lz1,lz2];rfl) | rfl)
     case hQt4=>exact fun _ _ _ h=>h
     case hwt4=>rfl
     case hyt4=>((intro w hSw;obtain ⟨hS1,hS2,hS3⟩:=hSw;go_simp);first | done | with_reducible rfl)
     try simp only [Act.put,lz3,lz4,lz5]
     refine wpAnyH_take (i:=5) (oi:=?oit5) (v:=?vt5) ?hit5 (by kernel_rfl) (by kernel_rfl) (by kernel_rfl) ?hQt5 (Or.inl ⟨?hwt5,?hyt5⟩) (by assumption) ?restt5
     case hit5=>(first | (simp only [lz0,lz1,lz2];rfl) | rfl)
     case hQt5=>exact fun _ _ _ h=>h
     case hwt5=>rfl
     case hyt5=>((intro w hSw;obtain ⟨hS1,hS2,hS3⟩:=hSw;go_simp);first | done | with_reducible rfl)
     try simp only [Act.put,lz3,lz4,lz5]
     refine wpAnyH_take (i:=6) (oi:=?oit6) (v:=?vt6) ?hit6 (by kernel_rfl) (by kernel_rfl) (by kernel_rfl) ?hQt6 (Or.inl ⟨?hwt6,?hyt6⟩) (by assumption) ?restt6
     case hit6=>(first | (simp only [lz0,lz1,lz2];rfl) | rfl)
     case hQt6=>exact fun _ _ _ h=>h
     case hwt6=>rfl
     case hyt6=>((intro w hSw;obtain ⟨hS1,hS2,hS3⟩:=hSw;go_simp);first | done | with_reducible rfl)
     try simp only [Act.put,lz3,lz4,lz5]
     refine wpAnyH_take (i:=7) (oi:=?oit7) (v:=?vt7) ?hit7 (by kernel_rfl) (by kernel_rfl) (by kernel_rfl) ?hQt7 (Or.inl ⟨?hwt7,?hyt7⟩) (by assumption) ?restt7
     case hit7=>(first | (simp only [lz0,lz1,lz2];rfl) | rfl)
     case hQt7=>exact fun _ _ _ h=>h
     case hwt7=>rfl
     case hyt7=>((intro w hSw;obtain ⟨hS1,hS2,hS3⟩:=hSw;go_simp);first | done | with_reducible rfl)
     try simp only [Act.put,lz3,lz4,lz5]
     refine wpAnyH_take (i:=8) (oi:=?oit8) (v:=?vt8) ?hit8 (by kernel_rfl) (by kernel_rfl) (by kernel_rfl) ?hQt8 (Or.inl ⟨?hwt8,?hyt8⟩) (by assumption) ?restt8
     case hit8=>(first | (simp only [lz0,lz1,lz2];rfl) | rfl)
     case hQt8=>exact fun _ _ _ h=>h
     case hwt8=>rfl
     case hyt8=>((intro w hSw;obtain ⟨hS1,hS2,hS3⟩:=hSw;go_simp);first | done | with_reducible rfl)
     try simp only [Act.put,lz3,lz4,lz5]
     refine wpAnyH_take (i:=9) (oi:=?oit9) (v:=?vt9) ?hit9 (by kernel_rfl) (by kernel_rfl) (by kernel_rfl) ?hQt9 (Or.inl ⟨?hwt9,?hyt9⟩) (by assumption) ?restt9
     case hit9=>(first | (simp only [lz0,lz1,lz2];rfl) | rfl)
     case hQt9=>exact fun _ _ _ h=>h
     case hwt9=>rfl
     case hyt9=>((intro w hSw;obtain ⟨hS1,hS2,hS3⟩:=hSw;go_simp);first | done | with_reducible rfl)
     try simp only [Act.put,lz3,lz4,lz5]
     refine wpAnyH_take (i:=10) (oi:=?oit10) (v:=?vt10) ?hit10 (by kernel_rfl) (by kernel_rfl) (by kernel_rfl) ?hQt10 (Or.inl ⟨?hwt10,?hyt10⟩) (by assumption) ?restt10
     case hit10=>(first | (simp only [lz0,lz1,lz2];rfl) | rfl)
     case hQt10=>exact fun _ _ _ h=>h
     case hwt10=>rfl
     case hyt10=>((intro w hSw;obtain ⟨hS1,hS2,hS3⟩:=hSw;go_simp);first | done | with_reducible rfl)
     try simp only [Act.put,lz3,lz4,lz5]
     refine wpAnyH_take (i:=11) (oi:=?oit11) (v:=?vt11) ?hit11 (by kernel_rfl) (by kernel_rfl) (by kernel_rfl) ?hQt11 (Or.inl ⟨?hwt11,?hyt11⟩) (by assumption) ?restt11
     case hit11=>(first | (simp only [lz0,lz1,lz2];rfl) | rfl)
     case hQt11=>exact fun _ _ _ h=>h
     case hwt11=>rfl
     case hyt11=>((intro w hSw;obtain ⟨hS1,hS2,hS3⟩:=hSw;go_simp);first | done | with_reducible rfl)
     try simp only [Act.put,lz3,lz4,lz5]
     refine wpAnyH_ready (rs:=[12]) (by kernel_rfl) (by simp) ?_
     refine AllReadyH.cons (o:=?oc1) ?hcc1 ?stc1 AllReadyH.nil
     case hcc1=>(simp only [lz0,lz1,lz2];rfl)
     intro K hK
     go_simp
     refine HREAD.out.mono ?_
     rintro e u1 ⟨pv,rfl,hpo,hb1⟩
     have hb01:Below wr.heap.size wr u1:=below_then HB0.out hb1 HB0.out.size
     have HBL:=Lib.hid hb01
     have HPO:=Lib.hid hpo
     have HBU:=Lib.hid hb1
     have hq1:=HQ1.out.below hb01 HQ1.out.lt
     have hp1:=HE.out.part.below hb01 HE.out.part.lt
     have HQ11:=Lib.hid hq1
     have HP1:=Lib.hid hp1
     have hS1:=HEX.out _ u1 hq1 (by simpa using hp1.cell 1)
     obtain ⟨PA,PN,PC,hpv⟩:∃ A n c,pv=.slice A n c:=by
      obtain ⟨_,_,h1,_⟩:=hpo
      obtain ⟨A,c,e⟩:=own_slice h1
      exact ⟨A,_,c,e⟩
     subst hpv
     clear hb1 hpo hb01 hq1 hp1
     go_wp2_with fail
     refine hK.out _ _ hS1 (fun _=>?_)
     clear hK K
     refine wpAnyH_take (i:=13) (oi:=?oiu13) (v:=?vu13) ?hiu13 (by kernel_rfl) (by kernel_rfl) (by kernel_rfl) ?hQu13 (Or.inl ⟨?hwu13,?hyu13⟩) (by assumption) ?restu13
     case hiu13=>(first | (simp only [lz0,lz1,lz2];rfl) | rfl)
     case hQu13=>exact fun _ _ _ h=>h
     case hwu13=>rfl
     case hyu13=>((intro w hSw;obtain ⟨hS1,hS2,hS3⟩:=hSw;go_simp);first | done | with_reducible rfl)
     try simp only [Act.put,lz3,lz4,lz5]
     refine wpAnyH_take (i:=14) (oi:=?oiu14) (v:=?vu14) ?hiu14 (by kernel_rfl) (by kernel_rfl) (by kernel_rfl) ?hQu14 (Or.inl ⟨?hwu14,?hyu14⟩) (by assumption) ?restu14
     case hiu14=>(first | (simp only [lz0,lz1,lz2];rfl) | rfl)
     case hQu14=>exact fun _ _ _ h=>h
     case hwu14=>rfl
     case hyu14=>((intro w hSw;obtain ⟨hS1,hS2,hS3⟩:=hSw;go_simp);first | done | with_reducible rfl)
     try simp only [Act.put,lz3,lz4,lz5]
     refine wpAnyH_ready (rs:=[15]) (by kernel_rfl) (by simp) ?_
     refine AllReadyH.cons (o:=?oc2) ?hcc2 ?stc2 AllReadyH.nil
     case hcc2=>(simp only [lz0,lz1,lz2];rfl)
     intro K hK
     have y0:=HQ11.out.cell 0
     have z0:=HQ11.out.frozen 0
     simp only [lz0,lz1,lz2] at y0
     go_simp
     clear y0 z0
     obtain ⟨u2,hu2⟩:∃ u2,u2=u1.setCell ⟨b,0,none⟩ (.slice PA PN PC):=⟨_,rfl⟩
     rw [← hu2]
     have hq2:Blk u2 b 145 #[.slice PA PN PC,.slice L1 m1 k1,.int .i64 la,.int .i64 P,.int .i64 N,.int .i64 r]:=by rw [hu2];simpa using HQ11.out.set_ 0 (.slice PA PN PC)
     have hp2:Blk u2 g 270 #[.int .i64 x,.int .i64 sz]:=by rw [hu2];exact HP1.out.far (by simp only;omega) _
     have HQ12:=Lib.hid hq2
     have HP2:=Lib.hid hp2
     have hS2:=HEX.out _ u2 hq2 (by simpa using hp2.cell 1)
     have HU2:=Lib.hid hu2
     clear hq2 hp2 hu2
     refine hK.out _ _ hS2 (fun _=>?_)
     clear hK K
     refine wpAnyH_done (by kernel_rfl) ?_ _
     clear x1 x2 x3 hS1 hS2
     have y5:=HQ12.out.cell 5
     have z5:=HQ12.out.frozen 5
     have x0:=HP2.out.cell 0
     have x1:=HP2.out.cell 1
     simp only [lz0,lz1,lz2] at y5 x0 x1
     have hwr:IntKind.i64.wrap ((r:Int)+1)=(r:Int)+1:=IntWalk.i64_in _ (by omega)
     obtain ⟨u3,hu3⟩:∃ u3,u3=u2.setCell ⟨b,5,none⟩ (.int .i64 ((r:Int)+1)):=⟨_,rfl⟩
     have hq3:Blk u3 b 145 #[.slice PA PN PC,.slice L1 m1 k1,.int .i64 la,.int .i64 P,.int .i64 N,.int .i64 ((r:Int)+1)]:=by rw [hu3];simpa using HQ12.out.set_ 5 (.int .i64 ((r:Int)+1))
     have hk13:Kept (fun i=>i=b) u1 u3:=by rw [hu3,HU2.out];exact cu_set (cu_set (Kept.refl _ u1) 0 _) 5 _
     have hseF:PostsF u1 (fun i=>u0.heap.size≤i∧i < u1.heap.size) PA PN (sl l P (endP l P 4)):=by
      have h1:=HPO.out
      have hlen:(sl l P (endP l P 4)).length=PN:=by
       obtain ⟨_,_,h2,_⟩:=h1
       obtain ⟨_,_,e⟩:=own_slice h2
       simp only [Value.slice.injEq] at e
       exact e.2.1.symm
      exact h1.seeF hlen (by have h2:=sl_len (l:=l) (x:=P) (y:=endP l P 4) (by unfold endP;omega);have h3:endP l P 4 - P≤4:=(by unfold endP;omega);rw [hlen] at h2;unfold maxLen;omega)
     have hbu:b < u0.heap.size:=by have h1:=HQ1.out.lt;have h2:=HB0.out.size;omega
     have hcap:PN≤PC:=by
      obtain ⟨_,_,h2,_⟩:=HPO.out
      obtain ⟨_,_,e⟩:=own_slice h2
      simp only [Value.slice.injEq] at e
      rw [e.2.1]
      rw [e.2.1] at h2
      exact rowCap_le h2
     have hci1:CuIn u1 (fun i=>F i∨(u0.heap.size≤i∧i < u1.heap.size)) b PA PN PC L1 m1 k1 (sl l P (endP l P 4)) (leftJ l P 2):={
      po:=hseF.mono fun i hi=>⟨.inr hi,by omega⟩
      cap:=hcap
      lf:=((HQ2.out.lf.keep (fun i hi=>HBL.out.block i (HQ2.out.low i hi.1)) HBL.out.size).mono fun i hi=>⟨.inl hi.1,hi.2⟩)
      room:=HQ2.out.room
      own:=.inl HQ2.out.own
      low:=fun i hi=>hi.elim (fun h=>Nat.lt_of_lt_of_le (HQ2.out.low i h) HBL.out.size) (fun h=>h.2) }
     have hcu3:CuRaw u3 (fun i=>F i∨(u0.heap.size≤i∧i < u1.heap.size)) b (sl l P (endP l P 4)) (leftJ l P 2) la P N ((r:Int)+1):=⟨_,_,_,_,_,_,hq3,hci1.kept hk13⟩
     have hpass:=cPass_any hcu3 (t:=x) (v:=sz) (mm:=4) (by rw [HCAT.out,HSZ.out,List.length_append];omega) (by omega) (by omega) (by omega) (by omega)
     rw [show (leftJ l P 2).drop sz=restP l (P+4) by rw [HCAT.out,HSZ.out,List.drop_left]] at hpass
     unfold at0 at hpass
     have HPASS:=Lib.hid hpass
     have HU3:=Lib.hid hu3
     have HK13:=Lib.hid hk13
     have hbu0:=HB0.out.size
     clear hq3 hk13 hseF hcap hci1 hcu3 hpass hu3
     go_wp2_with fail
     rw [← HU3.out]
     refine HPASS.out.mono ?_
     rintro e u4 ⟨rfl,hc4,hk4⟩
     have HC4:=Lib.hid hc4
     have HK4:=Lib.hid (cu_then HK13.out hk4)
     clear hc4 hk4
     go_wp2
     try rw [Exit.noGoto_ret]
     go_ret
     have hNl:=HNN.out
     have hxx:=HX.out
     refine .inl ⟨rfl,P,(fun i=>F i∨(u0.heap.size≤i∧i < u1.heap.size)),hP0,hP4,by omega,fun i h1 h2=>HL.out i h1 (by omega),by rw [← hxx];exact HXD.out,?_,?_,?_⟩
     ·have h1:=HC4.out
      rw [hxx] at h1
      rw [← hNl]
      push_cast
      exact h1
     ·exact (cu_then (cu_then HE.out.kept (Kept.below HBL.out)) HK4.out).mono (fun i e=>by subst e;exact HQ2.out.own)
     ·intro i hi
      rcases hi with h1 | ⟨h1,_⟩
      ·exact .inl h1
      ·right
       have:=HE.out.kept.size
       omega
  ·have d1:decide ((P:Int) < (N:Int))=false:=decide_eq_false (by omega)
   have p1:¬ ((P:Int) < (N:Int)):=by omega
   go_wp2
   go_quiet (fail)
   go_wp2
   try rw [Exit.noGoto_ret]
   go_ret
   have hC2:=HC.out.below (below_drewN (Below.refl _ wr) nq)
   refine .inr ⟨rfl,P,by rw [← HNN.out];omega,hP4,by rw [← HNN.out];omega,fun i h1 h2=>HL.out i h1 (by have:=HNN.out;omega),?_,(cu_then HK.out (Kept.below (below_drewN (Below.refl _ wr) nq))).mono (fun i e=>by subst e;exact HC.out.low.1)⟩
   rw [← HNN.out]
   exact hC2
end Go.Proofs.YthcjikpabpgpfaaGreat
