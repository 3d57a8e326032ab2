import Derived.Test.YthcjikpabpgpfaaGreatZp0
import Derived.Test.YthcjikpabpgpfaaGreatZp24
import Derived.Test.YthcjikpabpgpfaaGreatZp12
import Derived.Test.YthcjikpabpgpfaaGreatZp18
import Derived.Lib.SmallJoins
import Derived.Test.YthcjikpabpgpfaaGreatZp7
set_option linter.unusedSimpArgs false
set_option maxHeartbeats 16000000
set_option maxRecDepth 100000
namespace Go.Proofs.YthcjikpabpgpfaaGreat
open Go.RowKit Go.Maps Go.WideMaps
def CuSkipOut (w:World) (F:Nat→Prop) (b:Nat) (l:List Pst) (a P r:Nat) (d:Int) (e:Ending) (w':World):Prop:=
 ∃ (t:Nat) (F':Nat→Prop),IsFirst l d a t∧e=.returned (.bool (decide (t < l.length)))∧Kept F w w'∧(∀ i,F' i→F i∨w.heap.size≤i)∧∃ P' r':Nat,P' % 4=0∧P'≤l.length+16∧(t < l.length→P'=4 * (t / 4+1))∧t≤min P' l.length∧CuRaw w' F' b (sl l t (min P' l.length)) (restP l P') (lastD l (min P' l.length)) P' l.length r'∧
  ((r'=r∧(t=l.length∨(a < min P l.length∧t / 4=a / 4)))∨(r'=r+1∧t < l.length∧(a < min P l.length→a / 4 < t / 4)))
theorem cuSkip_raw {w:World} {F:Nat→Prop} {b:Nat} {l:List Pst} (hV:ValidP l) {a P r:Nat} (h:CuRaw w F b (sl l a (min P l.length)) (restP l P) (lastD l (min P l.length)) P l.length r) (h4:P % 4=0) (h16:P≤l.length+16) (ha:a≤min P l.length) (hb:a < min P l.length→P=4 * (a / 4+1)) (hr:r≤9000) (d:Int):
  Calls Tryz.prog 120 #[.pointer (some ⟨b,0,none⟩),.int .i64 d] w (CuSkipOut w F b l a P r d):=by
 have hpl:(sl l a (min P l.length)).length=min P l.length - a:=sl_len (by omega)
 have hfew:=hV.few
 have hsk:=cBskip_any h d (by rw [hpl];omega)
 unfold at0 at hsk
 have HSK:=Lib.hid hsk
 have HV:=Lib.hid hV
 have HF:=Lib.hid h.low
 have HPL:=Lib.hid hpl
 have HAB:=Lib.hid (And.intro ha hb)
 obtain ⟨N,hN⟩:∃ N,N=l.length:=⟨_,rfl⟩
 rw [← hN] at hfew h16
 have HNN:=Lib.hid hN
 clear h hV hpl hsk ha hb hN
 go_enter Tryz.func120,Tryz.ntmps120
 go_wp2_with fail
 refine HSK.out.mono ?_
 rintro e w1 ⟨t,po',rfl,hsi,hc1,hk1⟩
 have HC1:=Lib.hid hc1
 have HK1:=Lib.hid (hk1.mono (F':=F) (fun i e=>by subst e;exact HF.out.1))
 clear hk1
 rcases hsi with ⟨rfl,hall,rfl⟩ | ⟨rfl,k,hk,hless,hhere,rfl⟩
 ·have hen:=cEnter_any HV.out hc1 h4 (by rw [← HNN.out];exact h16) (by omega) d
  unfold at0 at hen
  have HEN:=Lib.hid hen
  have hall2:∀ i,a≤i→i < min P l.length→(pAt l i).1 < d:=fun i i1 i2=>by
   have h1:=hall (i - a) (by rw [HPL.out];omega)
   rw [pAt_sl (by omega)] at h1
   rwa [show a+(i - a)=i by omega] at h1
  have HALL:=Lib.hid hall2
  clear hc1 hall hall2 hen
  go_wp2_with fail
  refine HEN.out.mono ?_
  rintro e w2 (⟨rfl,P1,F',q1,q2,q3,q4,q5,q6,q7,q8⟩ | ⟨rfl,P1,q1,q2,q3,q4,q5,q6⟩)
  ·have hE:endP l P1 4≤l.length:=by unfold endP;omega
   have hpl2:(sl l P1 (endP l P1 4)).length=endP l P1 4 - P1:=sl_len hE
   have hsk2:=cBskip_any q6 d (by rw [hpl2];unfold endP;omega)
   unfold at0 at hsk2
   have HSK2:=Lib.hid hsk2
   have HQ:=Lib.hid (And.intro q1 (And.intro q2 (And.intro q3 (And.intro q4 q5))))
   have HK2:=Lib.hid (HK1.out.trans q7 (fun i _ hi=>hi))
   have HF2:=Lib.hid q8
   have HLO:=Lib.hid q6.low
   have HK1S:=Lib.hid HK1.out.size
   have HPL2:=Lib.hid hpl2
   clear q1 q2 q3 q4 q5 q6 q7 q8 hpl2 hsk2 hE
   go_wp2_with fail
   refine HSK2.out.mono ?_
   rintro e w3 ⟨t,po',rfl,hsi,hc3,hk3⟩
   obtain ⟨q1,q2,q3,q4,q5⟩:=HQ.out
   have hE1:P1 < endP l P1 4∧endP l P1 4≤P1+4∧endP l P1 4≤l.length:=by unfold endP;omega
   rcases hsi with ⟨-,hall,-⟩ | ⟨rfl,k,hk,hless,hhere,rfl⟩
   ·exfalso
    have h1:=hall (endP l P1 4 - 1 - P1) (by rw [HPL2.out];omega)
    rw [pAt_sl (by omega),show P1+(endP l P1 4 - 1 - P1)=endP l P1 4 - 1 by omega,← last_end q3 (by omega)] at h1
    omega
   ·have hk2:k < endP l P1 4 - P1:=by rw [HPL2.out] at hk;exact hk
    have hfin:CuSkipOut w F b l a P r d (.returned (.bool true)) w3:=by
     refine ⟨P1+k,F',⟨by have:=HAB.out.1;omega,by omega,fun i i1 i2=>?_,fun _=>?_⟩,?_,?_,fun i hi=>?_,P1+4,r+1,by omega,by omega,fun _=>by omega,by omega,?_,.inr ⟨rfl,by omega,fun h=>?_⟩⟩
     ·rcases Nat.lt_or_ge i (min P l.length) with h1 | h1
      ·exact HALL.out i i1 h1
      ·rcases Nat.lt_or_ge i P1 with h2 | h2
       ·exact q4 i (by omega) h2
       ·have h3:=hless (i - P1) (by omega)
        rw [pAt_sl (by omega)] at h3
        rwa [show P1+(i - P1)=i by omega] at h3
     ·have h3:=hhere
      rwa [pAt_sl (by omega)] at h3
     ·rw [decide_eq_true (by omega)]
     ·exact HK2.out.trans (F':=fun i=>i=b) hk3 (fun i hi e=>by subst e;exact HF.out.1)
     ·rcases HF2.out i hi with h1 | h1
      ·exact .inl h1
      ·right;have:=HK1S.out;omega
     ·rw [sl_drop] at hc3
      rw [lastD_end,show min (P1+4) l.length=endP l P1 4 by unfold endP;omega]
      exact hc3
     ·have:=HAB.out.2 h
      omega
    have HFIN:=Lib.hid hfin
    clear hc3 hk3 hk hless hhere hfin q1 q2 q3 q4 q5 hE1 hk2
    go_wp2
    go_ret
    exact HFIN.out
  ·have hfin:CuSkipOut w F b l a P r d (.returned (.bool false)) w2:=by
    refine ⟨l.length,F,⟨by have:=HAB.out.1;omega,by omega,fun i i1 i2=>?_,fun h=>by omega⟩,?_,HK1.out.trans q6 (fun i _ hi=>hi),fun i hi=>.inl hi,P1,r,q2,q3,fun h=>by omega,by omega,?_,.inl ⟨rfl,.inl rfl⟩⟩
    ·rcases Nat.lt_or_ge i (min P l.length) with h1 | h1
     ·exact HALL.out i i1 h1
     ·exact q4 i (by omega) i2
    ·rw [decide_eq_false (by omega)]
    ·rw [show min P1 l.length=l.length by omega,sl_none] at *
     exact q5
   have HFIN:=Lib.hid hfin
   clear q1 q2 q3 q4 q5 q6 hfin
   go_wp2
   go_ret
   exact HFIN.out
 ·have hk2:k < min P l.length - a:=by rw [HPL.out] at hk;exact hk
  have hfin:CuSkipOut w F b l a P r d (.returned (.bool true)) w1:=by
   have hP:=HAB.out.2 (by omega)
   refine ⟨a+k,F,⟨by omega,by omega,fun i i1 i2=>?_,fun _=>?_⟩,?_,HK1.out,fun i hi=>.inl hi,P,r,h4,by rw [← HNN.out];exact h16,fun _=>by omega,by omega,?_,.inl ⟨rfl,.inr ⟨by omega,by omega⟩⟩⟩
   ·have h3:=hless (i - a) (by omega)
    rw [pAt_sl (by omega)] at h3
    rwa [show a+(i - a)=i by omega] at h3
   ·have h3:=hhere
    rwa [pAt_sl (by omega)] at h3
   ·rw [decide_eq_true (by omega)]
   ·have h3:=HC1.out
    rw [sl_drop] at h3
    exact h3
  have HFIN:=Lib.hid hfin
  clear hc1 hk hless hhere hfin hk2
  go_wp2
  go_ret
  exact HFIN.out
def K0 (w:World) (F:Nat→Prop) (b:Nat) (s:CSt):Prop:=
 ValidP s.l∧∃ P:Nat,P % 4=0∧P≤s.l.length+16∧s.at_≤min P s.l.length∧(s.at_ < s.l.length→P=4 * (s.at_ / 4+1)∧s.last=(s.at_ / 4:Nat))∧CuRaw w F b (sl s.l s.at_ (min P s.l.length)) (restP s.l P) (lastD s.l (min P s.l.length)) P s.l.length s.read
theorem k0_keep {w w':World} {F:Nat→Prop} {b:Nat} {s:CSt} (h:K0 w F b s) (hk:∀ i,F i→w'.heap[i]?=w.heap[i]?) (hs:w.heap.size≤w'.heap.size):K0 w' F b s:=by
 obtain ⟨h1,P,h2,h3,h4,h5,h6⟩:=h
 exact ⟨h1,P,h2,h3,h4,h5,h6.all hk hs⟩
theorem k0_lt {w:World} {F:Nat→Prop} {b:Nat} {s:CSt} (h:K0 w F b s):∀ i,F i→i < w.heap.size:=by
 obtain ⟨h1,P,h2,h3,h4,h5,h6⟩:=h
 exact h6.low.2
theorem k0_see {w:World} {F:Nat→Prop} {b:Nat} {s:CSt} (h:K0 w F b s):∃ (A:Option Addr) (n c:Nat) (l:List Pst),w.cell? ⟨b,0,none⟩=some (.slice A n c)∧PostsSee w A n l∧(n=0↔s.l.length≤s.at_)∧(0 < n→pAt l 0=pAt s.l s.at_):=by
 obtain ⟨h1,P,h2,h3,h4,h5,A,n,c,L,m,k,h6,h7⟩:=h
 have h8:=h7.po.1.len
 rw [sl_len (by omega)] at h8
 refine ⟨A,n,c,_,by simpa using h6.cell 0,h7.po.1,⟨fun e=>?_,fun e=>by omega⟩,fun e=>?_⟩
 ·rcases Nat.lt_or_ge s.at_ s.l.length with h9 | h9
  ·have:=(h5 h9).1;omega
  ·exact h9
 ·rw [pAt_sl (by omega)]
  rfl
theorem k0_doc {w:World} {F:Nat→Prop} {b:Nat} {s:CSt} (h:K0 w F b s):Calls Tryz.prog 66 #[.pointer (some ⟨b,0,none⟩)] w fun e w'=>e=.returned (.tuple #[.int .i64 (cDoc s),.bool (cIn s)])∧w'=w:=by
 obtain ⟨A,n,c,l,c0,hs,h0,h1⟩:=k0_see h
 clear h
 unfold cDoc cIn
 rcases Nat.eq_zero_or_pos n with hn | hn
 ·have h2:=h0.1 hn
  rw [if_neg (by omega),decide_eq_false (by omega)]
  subst hn
  clear h0 h1 hs
  go_enter Tryz.func66,Tryz.ntmps66
  go_wp2
  go_ret2
  exact ⟨rfl,rfl⟩
 ·have h2:s.at_ < s.l.length:=by
   rcases Nat.lt_or_ge s.at_ s.l.length with h3 | h3
   ·exact h3
   ·have:=h0.2 h3;omega
  rw [if_pos h2,decide_eq_true h2]
  obtain ⟨pa,x,SA,da,rfl,hx,-,a0,-,-,-⟩:=hs.at 0 hn
  have hpx:=pAt_eq hx
  rw [h1 hn] at hpx
  rw [hpx]
  have d1:((n:Int)==0)=false:=beq_eq_false_iff_ne.2 (by omega)
  have a0':w.cell? pa=some (.int .i64 x.1):=by simpa [Addr.add] using a0
  clear h0 h1 hs hx hpx h2
  go_enter Tryz.func66,Tryz.ntmps66
  go_wp2
  go_ret2
  exact ⟨rfl,rfl⟩
theorem stand_keep {s:CSt} (h:¬ (s.at_ < s.l.length∧((s.at_ / 4:Nat):Int)≠s.last)):cStand s=s:=by
 unfold cStand
 rw [if_neg h]
theorem stand_turn {s:CSt} (h:s.at_ < s.l.length∧((s.at_ / 4:Nat):Int)≠s.last):cStand s={ s with read:=s.read+1,last:=(s.at_ / 4:Nat) }:=by
 unfold cStand
 rw [if_pos h]
theorem k0_after {w w':World} {F:Nat→Prop} {b:Nat} {s:CSt} {d:Int} {e:Ending} (hV:ValidP s.l) {P:Nat} (hat:s.at_≤s.l.length) (hP:s.at_ < min P s.l.length→s.last=(s.at_ / 4:Nat)) (hn:s.at_ < s.l.length→¬ s.at_ < min P s.l.length→s.last=-1) (h:CuSkipOut w F b s.l s.at_ P s.read d e w'):
  e=.returned (.bool (cIn (cSkip s d)))∧∃ F',K0 w' F' b (cSkip s d)∧Kept F w w'∧∀ i,F' i→F i∨w.heap.size≤i:=by
 obtain ⟨t,F',h1,rfl,h3,h4,P',r',h5,h6,h7,h8,h9,h10⟩:=h
 have hc:cSkip s d=cStand { s with at_:=t }:=by
  unfold cSkip
  rw [show skipN s.l d (s.l.length - s.at_) s.at_=t from h1.eq hat]
 refine ⟨?_,F',?_,h3,h4⟩
 ·rw [hc,cIn_stand]
  rfl
 ·rw [hc]
  rcases h10 with ⟨rfl,h10⟩ | ⟨rfl,h10,h11⟩
  ·rw [stand_keep (s:={ s with at_:=t }) (by
    simp only
    rcases h10 with h10 | ⟨h10,h12⟩
    ·omega
    ·have:=hP h10
     rw [this,h12]
     simp)]
   refine ⟨hV,P',h5,h6,h8,fun h=>⟨h7 h,?_⟩,h9⟩
   simp only at h ⊢
   rcases h10 with h10 | ⟨h10,h12⟩
   ·omega
   ·rw [h12];exact hP h10
  ·have hne:((t / 4:Nat):Int)≠s.last:=by
    by_cases hm:s.at_ < min P s.l.length
    ·have h12:=h11 hm
     have h13:=hP hm
     omega
    ·by_cases ha:s.at_ < s.l.length
     ·have:=hn ha hm
      omega
     ·have:=h1.from_
      omega
   rw [stand_turn (s:={ s with at_:=t }) ⟨h10,hne⟩]
   exact ⟨hV,P',h5,h6,h8,fun _=>⟨h7 h10,rfl⟩,h9⟩
theorem k0_skip {w:World} {F:Nat→Prop} {b:Nat} {s:CSt} (h:K0 w F b s) (hw:CWF s) (d:Int):Calls Tryz.prog 120 #[.pointer (some ⟨b,0,none⟩),.int .i64 d] w fun e w'=>e=.returned (.bool (cIn (cSkip s d)))∧∃ F',K0 w' F' b (cSkip s d)∧Kept F w w'∧∀ i,F' i→F i∨w.heap.size≤i:=by
 obtain ⟨h1,P,h2,h3,h4,h5,h6⟩:=h
 have q1:=hw.few
 have q2:=hw.last
 have q3:=hw.read
 have q4:=hw.at_
 exact (cuSkip_raw h1 h6 h2 h3 h4 (fun hm=>(h5 (by omega)).1) (by omega) d).mono fun e w' ho=>k0_after h1 hw.at_ (fun hm=>(h5 (by omega)).2) (fun ha hm=>by have:=(h5 ha).1;omega) ho
theorem k0_new (w:World) (A:Option Addr) (n c:Nat) (x:Nm) (hx:BytesIn w A n x) (hc:n≤c) (hn:n≤1099511627776) (hE:(getP x).2=0):Calls Tryz.prog 68 #[.slice A n c] w fun e w'=>∃ b F,e=.returned (.tuple #[.pointer (some ⟨b,0,none⟩),.int .i64 0])∧Below w.heap.size w w'∧K0 w' F b (cStart (getP x).1)∧∀ i,F i→w.heap.size≤i:=by
 have HG:=Lib.hid (gGet_any w A n c x hx hc hn)
 unfold GetPOut at HG
 rw [hE] at HG
 obtain ⟨hck,hpx⟩:=getP_some hE
 have hV:=(check_ok getP_fit).1 hck
 obtain ⟨l,hl⟩:∃ l,l=(getP x).1:=⟨_,rfl⟩
 rw [← hl] at hV hpx HG ⊢
 have hfew:=hV.few
 have hxx:x=putL l.length++restP l 0:=by rw [← hpx];rfl
 have HX:=Lib.hid hx
 have HV:=Lib.hid hV
 have HXX:=Lib.hid hxx
 clear hx hE hck hpx hl hV hxx hc
 go_enter Tryz.func68,Tryz.ntmps68
 go_wp2_with fail
 refine HG.out.mono ?_
 rintro e w1 ⟨v,rfl,ho,hb⟩
 have HB:=Lib.hid hb
 have HCL:=Lib.hid (clone_any w1 A n c x (HX.out.below hb) (by omega))
 clear ho hb
 go_wp2_with fail
 refine HCL.out.mono ?_
 rintro e w2 ⟨v2,rfl,ho2,hb2⟩
 have HO2:=Lib.hid ho2
 have HB2:=Lib.hid (below_then HB.out hb2 HB.out.size)
 have hz12:=hb2.size
 have hz1:=HB.out.size
 obtain ⟨L,k,rfl,hnk⟩:=own_cap ho2
 clear ho2 hb2
 obtain ⟨g,hg⟩:∃ g,g=w2.heap.size:=⟨_,rfl⟩
 obtain ⟨w3,hw3⟩:∃ w3,w3=w2.alloc (.cells #[.slice none 0 0,.slice L n k,.int .i64 (-1),.int .i64 0,.int .i64 0,.int .i64 0] 145):=⟨_,rfl⟩
 have hb3:Below w2.heap.size w2 w3:=by rw [hw3];exact (Below.refl _ w2).alloc (Nat.le_refl _) _
 have hblk:Blk w3 g 145 #[.slice none 0 0,.slice L n k,.int .i64 (-1),.int .i64 0,.int .i64 0,.int .i64 0]:=by rw [hw3,hg];exact Blk.new _ _ _
 have hs3:w3.heap.size=g+1:=by rw [hw3,hg];simp
 have hlf:BytesF w3 (fun i=>(w.heap.size≤i∧i≤g)∧i≠g) L n x:=by
  have h1:=(BytesIn.own HO2.out (by unfold maxLen;omega)).below hb3
  refine ⟨h1,fun ad e _=>?_⟩
  have h2:=HO2.out.lt ad.block (by rw [e];rfl)
  simp only
  omega
 have hcu:CuRaw w3 (fun i=>w.heap.size≤i∧i≤g) g [] x (-1) 0 0 0:=⟨_,_,_,_,_,_,hblk,⟨PostsF.nil _ _,Nat.le_refl _,hlf,⟨hnk,hn⟩,⟨by omega,Nat.le_refl _⟩,fun i hi=>by omega⟩⟩
 have hnum:=cNum_any hcu (v:=l.length) (rest:=restP l 0) (by omega) HXX.out
 unfold at0 at hnum
 have HNUM:=Lib.hid hnum
 have HB3:=Lib.hid (below_then HB2.out hb3 HB2.out.size)
 have HW3:=Lib.hid hw3
 have HGG:=Lib.hid hg
 clear hb3 hblk hlf hcu hnum hw3
 rw [hg] at HNUM
 go_wp2_with fail
 rw [← HW3.out]
 refine HNUM.out.mono ?_
 rw [← hg]
 clear hg
 rintro e w4 ⟨rfl,hc4,hk4⟩
 have hlo:=hc4.low
 obtain ⟨A4,n4,c4,L4,m4,k4,q1,q2⟩:=hc4
 have y4:=q1.cell 4
 have z4:=q1.frozen 4
 simp only [lz0,lz1,lz2] at y4
 obtain ⟨w5,hw5⟩:∃ w5,w5=w4.setCell ⟨g,4,none⟩ (.int .i64 l.length):=⟨_,rfl⟩
 have hk5:Kept (fun i=>i=g) w4 w5:=by rw [hw5];exact cu_set (Kept.refl _ w4) 4 _
 have hq5:CuRaw w5 (fun i=>w.heap.size≤i∧i≤g) g [] (restP l 0) (-1) 0 l.length 0:=by
  refine ⟨A4,n4,c4,L4,m4,k4,?_,q2.kept hk5⟩
  rw [hw5]
  simpa using q1.set_ 4 (.int .i64 l.length)
 have hm0:min 0 l.length=0:=by omega
 have hsk:=cuSkip_raw HV.out (a:=0) (P:=0) (r:=0) (by rw [hm0,sl_none];exact hq5) rfl (by omega) (by omega) (fun h=>by omega) (by omega) 0
 have HSK:=Lib.hid hsk
 have HK5:=Lib.hid (cu_then hk4 hk5)
 have HW5:=Lib.hid hw5
 clear hk4 hk5 hq5 hsk hw5 q1 q2 hlo
 go_wp2_with fail
 rw [← HW5.out]
 refine HSK.out.mono ?_
 rintro e w6 ho
 obtain ⟨he,F',h1,h2,h3⟩:=k0_after (s:=⟨l,0,0,-1⟩) HV.out (Nat.zero_le _) (fun h=>by simp at h) (fun _ _=>rfl) ho
 have hst:cSkip ⟨l,0,0,-1⟩ 0=cStart l:=by
  have hf:IsFirst l 0 0 0:=⟨Nat.le_refl _,Nat.zero_le _,fun i _ h=>by omega,fun h=>(HV.out.docs _ (pAt_mem h)).1⟩
  unfold cSkip cStart
  rw [show skipN l 0 (l.length - 0) 0=0 from hf.eq (Nat.zero_le _)]
 rw [hst] at he h1
 have HK6:=Lib.hid (And.intro h1 (And.intro h2 h3))
 subst he
 clear ho h1 h2 h3 hst
 go_wp2
 go_ret2
 have hsz:=HB3.out.size
 have hb5:Below w.heap.size w w5:=HB3.out.trans (HK5.out.toBelow (by omega) (fun i (e:i=g)=>by have h1:=HGG.out;have h2:=HB2.out.size;omega))
 refine ⟨g,F',rfl,hb5.trans (HK6.out.2.1.toBelow hb5.size (fun i hi=>hi.1)),HK6.out.1,fun i hi=>?_⟩
 rcases HK6.out.2.2 i hi with h | h
 ·exact h.1
 ·have:=hb5.size;omega
theorem next_skip {s:CSt} (hV:ValidP s.l) (hw:CWF s):cSkip s (cDoc s+1)=cNext s:=by
 have q4:=hw.at_
 by_cases h:s.at_ < s.l.length
 ·have hf:IsFirst s.l (cDoc s+1) s.at_ (s.at_+1):=by
   unfold cDoc
   rw [if_pos h]
   refine ⟨by omega,by omega,fun i h1 h2=>?_,fun h1=>?_⟩
   ·obtain rfl:i=s.at_:=by omega
    omega
   ·have h3:=hV.up (s.at_+1) h1
    rw [lastD_succ] at h3
    omega
  unfold cSkip cNext
  rw [show skipN s.l (cDoc s+1) (s.l.length - s.at_) s.at_=s.at_+1 from hf.eq q4,if_pos h]
 ·unfold cSkip cNext
  rw [if_neg h,show s.l.length - s.at_=0 by omega]
  rfl
theorem k0_next {w:World} {F:Nat→Prop} {b:Nat} {s:CSt} (h:K0 w F b s) (hw:CWF s):Calls Tryz.prog 67 #[.pointer (some ⟨b,0,none⟩)] w fun e w'=>e=.returned (.bool (cIn (cNext s)))∧∃ F',K0 w' F' b (cNext s)∧Kept F w w'∧∀ i,F' i→F i∨w.heap.size≤i:=by
 have HD:=Lib.hid (k0_doc h)
 have hs:=k0_skip h hw (cDoc s+1)
 rw [next_skip h.1 hw] at hs
 have HS:=Lib.hid hs
 have hd:-1≤cDoc s∧cDoc s≤4294967296:=by
  unfold cDoc
  split
  ·rename_i h1
   have:=h.1.docs _ (pAt_mem h1)
   omega
  ·omega
 obtain ⟨D,hD⟩:∃ D,D=cDoc s:=⟨_,rfl⟩
 rw [← hD] at HD HS hd
 have hw1:IntKind.i64.wrap (D+1)=D+1:=IntWalk.i64_in _ (by omega)
 clear h hw hs hD
 go_enter Tryz.func67,Tryz.ntmps67
 go_wp2_with fail
 refine HD.out.mono ?_
 rintro e w1 ⟨rfl,rfl⟩
 go_wp2_with fail
 refine HS.out.mono ?_
 rintro e w2 ⟨rfl,ho⟩
 have HO:=Lib.hid ho
 clear ho
 go_wp2
 go_ret
 exact ⟨rfl,HO.out⟩
theorem twos_oneC (l:List (Int×Int)):∀ u∈l.flatMap twoCells,u.oneCell'=true:=fun u hu=>by
 obtain ⟨p,_,h⟩:=List.mem_flatMap.1 hu
 simp [twoCells] at h
 rcases h with rfl | rfl <;> rfl
def SpotsOut2 (w:World) (l:List (Int×Int)) (e:Ending) (w':World):Prop:=∃ A c,e=.returned (.slice A l.length c)∧PairsIn w' A l.length l∧l.length≤c∧(∀ ad,A=some ad→0 < l.length→w.heap.size≤ad.block∧ad.block < w'.heap.size)∧Below w.heap.size w w'
theorem cloneSp_any (w:World) (B:Option Addr) (m c:Nat) (M:List (Int×Int)) (hM:PairsIn w B m M) (hm:m≤1048576):
  Calls Tryz.prog 71 #[.slice B m c] w fun e w'=>∃ v,e=.returned v∧w'.ownsRow w.heap.size 64 2 v m (M.flatMap twoCells)∧Below w.heap.size w w':=by
 obtain ⟨i0,hi,hz0,hz1,hz2⟩:=info_parts spotInfo
 have q22:∀ (w:World) (a:Option Addr) (n c n' c':Nat),(binOp .eql 60 (.slice a n c) (.slice none n' c')).run Tryz.prog w=.ok (.bool a.isNone) w:=fun w a n c n' c'=>Lib.run_eql_slice_nil w _ _ a n c n' c' Tryz.underlying60
 have hl:=hM.len
 cases B with
 | none=>
  have h0:=hM.nil rfl
  have hx:M=[]:=List.eq_nil_of_length_eq_zero (by omega)
  subst h0 hx
  clear hM hl
  go_enter Tryz.func71,Tryz.ntmps71
  go_wp2
  go_ret
  exact ⟨_,rfl,⟨rfl,.inl ⟨rfl,rfl⟩⟩,Below.refl _ _⟩
 | some ad=>
  have HS:=Lib.hid (pairs_src (hM.below ((Below.refl _ w).alloc (Nat.le_refl _) (.cells #[] 64))))
  have HLEN:=Lib.hid (two_len M)
  have HL:=Lib.hid hl
  have HONE:=Lib.hid (twos_oneC M)
  clear hM hl
  go_enter Tryz.func71,Tryz.ntmps71
  go_wp2_with (at_builtin;refine wpList_append_own_at _ rfl (.tmp 5) (.tmp 6) 60 rfl w.heap.size 64 i0 _ 2 16 Tryz.underlying60 hi hz0 hz1 hz2 rfl (by decide) _ 0 [] rfl (World.ownsRow_made w #[] 0 (Nat.le_refl _) (Nat.zero_le _) rfl) ad m c (M.flatMap twoCells) rfl (by rw [HLEN.out,HL.out]) HS.out HONE.out (by unfold maxLen;omega) (by omega) (by simp) ?_;intro v w2 hown hgrow hnil hloc;clear hnil;rw [Nat.zero_add,List.nil_append] at hown;have HO:=Lib.hid hown;have HB:Hid (Below w.heap.size w w2):=Lib.hid ((((Below.refl _ w).alloc (Nat.le_refl _) (.cells #[] 64)).grown hgrow (by simp) (fun k e=>by cases e;exact Nat.le_refl _)));clear hown hgrow hloc)
  go_ret
  exact ⟨_,rfl,HO.out,HB.out⟩
theorem k0_spotsN {w:World} {F:Nat→Prop} {b:Nat} {s:CSt} (h:K0 w F b s):Calls Tryz.prog 27 #[.pointer (some ⟨b,0,none⟩)] w (SpotsOut2 w (cSpots s)):=by
 have hV:=h.1
 obtain ⟨A,n,c,l,c0,hs,h0,h1⟩:=k0_see h
 clear h
 unfold cSpots
 rcases Nat.eq_zero_or_pos n with hn | hn
 ·have h2:=h0.1 hn
  rw [if_neg (by omega)]
  subst hn
  clear h0 h1 hs hV
  go_enter Tryz.func27,Tryz.ntmps27
  go_wp2
  go_ret
  exact ⟨none,0,rfl,⟨rfl,Nat.zero_le _,by simp,fun _=>rfl,fun ad e=>(by cases e)⟩,Nat.le_refl _,fun ad e=>(by cases e),Below.refl _ _⟩
 ·have h2:s.at_ < s.l.length:=by
   rcases Nat.lt_or_ge s.at_ s.l.length with h3 | h3
   ·exact h3
   ·have:=h0.2 h3;omega
  rw [if_pos h2]
  have hsp:=hV.spots _ (pAt_mem h2)
  obtain ⟨pa,x,SA,da,rfl,hx,-,-,a1,-,hsx⟩:=hs.at 0 hn
  have hpx:=pAt_eq hx
  rw [h1 hn] at hpx
  rw [hpx] at hsp ⊢
  have d1:((n:Int)==0)=false:=beq_eq_false_iff_ne.2 (by omega)
  have a1':w.cell? ⟨pa.block,pa.off+1,none⟩=some (.slice SA x.2.length da):=by simpa [Addr.add] using a1
  obtain ⟨X,hX⟩:∃ X,X=x.2:=⟨_,rfl⟩
  rw [← hX] at a1 a1' hsx hsp ⊢
  obtain ⟨m,hm⟩:∃ m,m=X.length:=⟨_,rfl⟩
  have HCL:=Lib.hid (cloneSp_any w SA m da X (by rw [hm];exact hsx) (by omega))
  have HVL:=Lib.hid hsx.vals
  have HM:=Lib.hid hm
  rw [← hm] at a1 a1' hsp
  clear h0 h1 hs hx hpx h2 hV hX hsx hm
  go_enter Tryz.func27,Tryz.ntmps27
  go_wp2_with fail
  refine HCL.out.mono ?_
  rintro e w1 ⟨v,rfl,ho,hb⟩
  have HO:=Lib.hid ho
  have HB:=Lib.hid hb
  obtain ⟨V,cv,rfl⟩:=own_slice ho
  clear ho hb
  go_wp2
  go_ret
  unfold SpotsOut2
  rw [← HM.out]
  exact ⟨V,cv,rfl,PairsIn.ownTwo HO.out HM.out.symm (by unfold maxLen;omega) HVL.out,rowCap_le HO.out,fun ad e _=>HO.out.lt ad.block (by rw [e];rfl),HB.out⟩
end Go.Proofs.YthcjikpabpgpfaaGreat
