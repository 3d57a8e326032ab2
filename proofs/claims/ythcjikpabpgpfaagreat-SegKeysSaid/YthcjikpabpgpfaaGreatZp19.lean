import Derived.Test.YthcjikpabpgpfaaGreatZp0
import Derived.Test.YthcjikpabpgpfaaGreatZp12
import Derived.Test.YthcjikpabpgpfaaGreatZp9
import Derived.Test.YthcjikpabpgpfaaGreatZp8
import Derived.Test.YthcjikpabpgpfaaGreatZp16
import Derived.Test.YthcjikpabpgpfaaGreatZp5
import Derived.Shelf.Abstract
import Derived.RegionTactic
import Derived.Lib.MinMax
import Derived.ChangeAlike
import Derived.StillTailTactics
import Derived.Test.YthcjikpabpgpfaaGreatZp13
import Derived.Test.YthcjikpabpgpfaaGreatZp10
import Derived.Test.YthcjikpabpgpfaaGreatZp6
import Derived.Test.YthcjikpabpgpfaaGreatZp2
import Derived.Laws.BitsAllLaws
import Derived.Deep.QuietTactic
import Derived.BigQuiet
import Derived.Deep.RegionHeld3
import Derived.Lib.SmallJoins
import Derived.Test.YthcjikpabpgpfaaGreatZp7
set_option linter.unusedSimpArgs false
set_option maxHeartbeats 16000000
set_option maxRecDepth 100000
namespace Go.Proofs.YthcjikpabpgpfaaGreat
open Go.RowKit Go.Maps Go.WideMaps
theorem below_set {a w:World} {B:Nat} (h:Below B a w) {p:Addr} (hp:B≤p.block) (u:Value):Below B a (w.setCell p u):=
 ⟨h.os,h.tape,h.output,by rw [size_setCell'];exact h.size,fun k hk=>(Below.heap_setCell _ _ _ k (by omega)).trans (h.block k hk)⟩
def lastS (s:List (Int×Int)) (k:Nat):Int×Int:=if k=0 then (-1,-1) else s.getD (k - 1) (0,0)
theorem spAt_last (s:List (Int×Int)) (k:Nat):spAt s k=(decide ((lastS s k).1 < (s.getD k (0,0)).1)&&decide ((lastS s k).2 < (s.getD k (0,0)).2)):=by
 unfold spAt lastS
 split <;> rfl
theorem lastS_next {s:List (Int×Int)} {k:Nat} {x:Int×Int} (h:s[k]?=some x):lastS s (k+1)=x:=by
 unfold lastS
 rw [if_neg (by omega),Nat.add_sub_cancel,List.getD_eq_getElem?_getD,h]
 rfl
theorem gRise_any (w:World) (A:Option Addr) (n c:Nat) (s:List (Int×Int)) (hs:PairsIn w A n s) (hn:n≤1099511627776):
  Calls Tryz.prog 132 #[.slice A n c] w fun e w'=>e=.returned (.bool (rises (-1) (poss s)&&rises (-1) (atss s)))∧Below w.heap.size w w':=by
 have HS:=Lib.hid hs
 have HLEN:=Lib.hid hs.len
 obtain ⟨R,hR⟩:∃ R,R=(rises (-1) (poss s)&&rises (-1) (atss s)):=⟨_,rfl⟩
 rw [← hR]
 have HR:Hid (R=true↔∀ k,k < s.length→spAt s k=true):=Lib.hid (by rw [hR];exact spots_rise)
 clear hs hR
 go_enter Tryz.func132,Tryz.ntmps132
 go_wp2
 go_loopw [9] (fun i wr=>∃ k:Nat,k≤n∧i=.int .i64 k∧(∀ j,j < k→spAt s j=true)∧Below w.heap.size w wr∧Blk wr w.heap.size 64 #[.int .i64 (lastS s k).1,.int .i64 (lastS s k).2]) (fun i _=>n - (intOf i).toNat)
 case atStart=>exact ⟨0,by omega,rfl,fun j hj=>by omega,(Below.refl _ _).alloc (Nat.le_refl _) _,Blk.new _ _ _⟩
 case round=>
  obtain ⟨k,hk,rfl,hsp,hB,hblk⟩:=hrel
  have HSP:=Lib.hid hsp
  have HB:=Lib.hid hB
  have HBK:=Lib.hid hblk
  obtain ⟨l1,hl1⟩:∃ x,x=(lastS s k).1:=⟨_,rfl⟩
  obtain ⟨l2,hl2⟩:∃ x,x=(lastS s k).2:=⟨_,rfl⟩
  rw [← hl1,← hl2] at HBK
  have c0:=HBK.out.cell 0
  have c1:=HBK.out.cell 1
  have z0:=HBK.out.frozen 0
  have z1:=HBK.out.frozen 1
  simp at c0 c1
  have hbs:=HB.out.size
  have hblt:=HBK.out.lt
  clear hsp hB hblk
  rcases Nat.lt_or_ge k n with hlt | hge
  ·have hlt':(k:Int) < (n:Int):=by omega
   have p0:(0:Int)≤(k:Int):=by omega
   have hw5:IntKind.i64.wrap ((k:Int)+1)=(k:Int)+1:=IntWalk.i64_in _ (by omega)
   obtain ⟨pa,x,rfl,hx,a0,a1,-,-⟩:=(HS.out.below HB.out).at k hlt
   have hsx:=spAt_last s k
   have hnl:=lastS_next hx
   rw [← hl1,← hl2,List.getD_eq_getElem?_getD,hx,Option.getD_some] at hsx
   obtain ⟨x1,x2⟩:=x
   simp only at a0 a1 hsx
   have HNL:=Lib.hid hnl
   have HSX:=Lib.hid hsx
   clear hx hsx hnl hl1 hl2
   by_cases q1:x1≤l1
   ·have d1:decide (x1≤l1)=true:=decide_eq_true q1
    obtain rfl:R=false:=by
     rw [Bool.eq_false_iff]
     intro e
     have h1:=HR.out.1 e k (by rw [HLEN.out];exact hlt)
     rw [HSX.out,Bool.and_eq_true,decide_eq_true_eq,decide_eq_true_eq] at h1
     omega
    go_wp2
    go_ret
    exact ⟨rfl,HB.out.alloc HB.out.size _⟩
   ·have d1:decide (x1≤l1)=false:=decide_eq_false q1
    by_cases q2:x2≤l2
    ·have d2:decide (x2≤l2)=true:=decide_eq_true q2
     obtain rfl:R=false:=by
      rw [Bool.eq_false_iff]
      intro e
      have h1:=HR.out.1 e k (by rw [HLEN.out];exact hlt)
      rw [HSX.out,Bool.and_eq_true,decide_eq_true_eq,decide_eq_true_eq] at h1
      omega
     go_wp2
     go_ret
     exact ⟨rfl,HB.out.alloc HB.out.size _⟩
    ·have d2:decide (x2≤l2)=false:=decide_eq_false q2
     have hgood:spAt s k=true:=by
      rw [HSX.out,Bool.and_eq_true,decide_eq_true_eq,decide_eq_true_eq]
      omega
     have HG:=Lib.hid hgood
     clear hgood
     go_wp2
     go_roundw
     case rel=>
      refine ⟨k+1,by omega,by go_num,fun j hj=>?_,?_,?_⟩
      ·rcases Nat.lt_or_ge j k with h1 | h1
       ·exact HSP.out j h1
       ·obtain rfl:j=k:=by omega
        exact HG.out
      ·exact (below_set (below_set HB.out (Nat.le_refl _) _) (Nat.le_refl _) _).alloc (by rw [size_setCell',size_setCell'];exact HB.out.size) _
      ·rw [HNL.out]
       have h1:=((HBK.out.set_ 0 (.int .i64 x1)).set_ 1 (.int .i64 x2)).alloc (.cells #[.int .i64 x1,.int .i64 x2] 64)
       simpa using h1
     case measure=>simp [intOf];omega
  ·obtain rfl:k=n:=by omega
   have hlz:¬ ((k:Int) < (k:Int)):=by omega
   obtain rfl:R=true:=HR.out.2 fun j hj=>HSP.out j (by rw [HLEN.out] at hj;exact hj)
   go_wp2
   go_ret
   exact ⟨rfl,HB.out⟩
theorem gMany1_any (w:World) (d:Int) (B:Option Addr) (k c:Nat):Calls Tryz.prog 131 #[.agg #[.int .i64 d,.slice B k c]] w fun e w'=>e=.returned (.bool (decide (4096 < k)))∧Below w.heap.size w w':=by
 have hd:decide ((4096:Int) < (k:Int))=decide (4096 < k):=decide_eq_decide.2 (by omega)
 go_enter Tryz.func131,Tryz.ntmps131
 go_wp2
 go_ret
 exact ⟨by rw [← hd];rfl,(Below.refl _ _).alloc (Nat.le_refl _) _⟩
theorem gIdx_any (w:World) (A:Option Addr) (n c:Nat) (l:List Pst) (h:PostsSee w A n l) (hn:n≤4096):
  Calls Tryz.prog 172 #[.slice A n c,.func (.func 131) #[] #[]] w fun e w'=>∃ r:Int,e=.returned (.int .i64 r)∧decide (0≤r)=manyUp l n∧Below w.heap.size w w':=by
 have HP:=Lib.hid h
 have HLEN:=Lib.hid h.len
 obtain ⟨R,hR⟩:∃ R,R=manyUp l n:=⟨_,rfl⟩
 rw [← hR]
 have HR:=Lib.hid hR
 clear h hR
 go_enter Tryz.func172,Tryz.ntmps172
 go_wp2
 go_loopw [8] (fun i wr=>∃ k:Nat,k≤n∧i=.int .i64 k∧manyUp l k=false∧Below w.heap.size w wr) (fun i _=>n - (intOf i).toNat)
 case atStart=>exact ⟨0,by omega,rfl,rfl,Below.refl _ _⟩
 case round=>
  obtain ⟨k,hk,rfl,hmu,hB⟩:=hrel
  have HMU:=Lib.hid hmu
  have HB:=Lib.hid hB
  clear hmu hB
  rcases Nat.lt_or_ge k n with hlt | hge
  ·have hlt':(k:Int) < (n:Int):=by omega
   have p0:(0:Int)≤(k:Int):=by omega
   have hw5:IntKind.i64.wrap ((k:Int)+1)=(k:Int)+1:=IntWalk.i64_in _ (by omega)
   obtain ⟨pa,x,SA,da,rfl,hx,-,a0,a1,-,-⟩:=(HP.out.below HB.out).at k hlt
   have HPX:=Lib.hid (pAt_eq hx)
   obtain ⟨x1,x2⟩:=x
   simp only at a0 a1
   obtain ⟨m,hm⟩:∃ m,m=x2.length:=⟨_,rfl⟩
   rw [← hm] at a1
   have HM:=Lib.hid hm
   clear hx hm
   go_wp2_with fail
   refine (gMany1_any wr x1 SA m da).mono ?_
   rintro e w2 ⟨rfl,hb2⟩
   have HB2:=Lib.hid (below_then HB.out hb2 HB.out.size)
   clear hb2
   by_cases hsp:4096 < m
   ·have d1:decide (4096 < m)=true:=decide_eq_true hsp
    have hfin:R=true:=by
     rw [HR.out]
     cases hm:manyUp l n with
     | true=>rfl
     | false=>have h1:=manyUp_iff.1 hm k hlt;rw [HPX.out,← HM.out] at h1;omega
    rw [d1]
    go_wp2
    go_ret
    exact ⟨_,rfl,by rw [hfin];exact decide_eq_true p0,HB2.out⟩
   ·have d1:decide (4096 < m)=false:=decide_eq_false hsp
    have hnx:manyUp l (k+1)=false:=by rw [manyUp,HMU.out,HPX.out,← HM.out,d1];rfl
    have HNX:=Lib.hid hnx
    rw [d1]
    clear hnx d1
    go_wp2
    go_roundw
    case rel=>exact ⟨k+1,by omega,by go_num,HNX.out,HB2.out⟩
    case measure=>simp [intOf];omega
  ·obtain rfl:k=n:=by omega
   have hlz:¬ ((k:Int) < (k:Int)):=by omega
   obtain rfl:R=false:=by rw [HR.out];exact HMU.out
   go_wp2
   go_ret
   exact ⟨_,rfl,by first | rfl | simp,HB.out⟩
theorem gCont_any (w:World) (A:Option Addr) (n c:Nat) (l:List Pst) (h:PostsSee w A n l) (hn:n≤4096):
  Calls Tryz.prog 130 #[.slice A n c,.func (.func 131) #[] #[]] w fun e w'=>e=.returned (.bool (manyUp l n))∧Below w.heap.size w w':=by
 have HC:=Lib.hid (gIdx_any w A n c l h hn)
 clear h
 go_enter Tryz.func130,Tryz.ntmps130
 go_wp2_with fail
 refine HC.out.mono ?_
 rintro e w2 ⟨r,rfl,hr,hb⟩
 have HB:=Lib.hid hb
 have HR:=Lib.hid hr
 clear hb hr
 go_wp2
 go_ret
 exact ⟨congrArg (fun x=>Ending.returned (.bool x)) HR.out,HB.out⟩
theorem gTooMany_any (w:World) (A:Option Addr) (n c:Nat) (l:List Pst) (h:PostsSee w A n l) (hn:n≤1000000):
  Calls Tryz.prog 80 #[.slice A n c] w fun e w'=>e=.returned (.bool (decide (checkP l=2)))∧Below w.heap.size w w':=by
 have hlen:=h.len
 by_cases hm:4096 < n
 ·have d1:decide ((4096:Int) < (n:Int))=true:=decide_eq_true (by omega)
  have hr:checkP l=2:=check_many (by omega)
  rw [hr]
  clear h hlen hr
  go_enter Tryz.func80,Tryz.ntmps80
  go_wp2
  go_ret
  exact ⟨rfl,Below.refl _ _⟩
 ·have d1:decide ((4096:Int) < (n:Int))=false:=decide_eq_false (by omega)
  have HC:=Lib.hid (gCont_any w A n c l h (by omega))
  have hr:decide (checkP l=2)=manyUp l n:=by
   rw [← hlen]
   unfold checkP
   rw [if_neg (by omega)]
   cases manyUp l l.length with
   | true=>rfl
   | false=>cases okUp l l.length <;> rfl
  rw [hr]
  clear h hlen hr
  go_enter Tryz.func80,Tryz.ntmps80
  go_wp2_with fail
  refine HC.out.mono ?_
  rintro e w2 ⟨rfl,hb⟩
  have HB:=Lib.hid hb
  clear hb
  go_wp2
  go_ret
  exact ⟨rfl,HB.out⟩
theorem gValid_any (w:World) (A:Option Addr) (n c:Nat) (l:List Pst) (h:PostsSee w A n l) (hn:n≤4096) (hs:∀ x∈l,x.2.length≤4096):
  Calls Tryz.prog 81 #[.slice A n c] w fun e w'=>e=.returned (.bool (okUp l n))∧Below w.heap.size w w':=by
 have HP:=Lib.hid h
 have HLEN:=Lib.hid h.len
 have HSL:=Lib.hid hs
 obtain ⟨R,hR⟩:∃ R,R=okUp l n:=⟨_,rfl⟩
 rw [← hR]
 have HR:Hid (R=true↔∀ i,i < n→okAt l i=true):=Lib.hid (by rw [hR];exact okUp_iff)
 clear h hR hs
 go_enter Tryz.func81,Tryz.ntmps81
 go_wp2
 go_loopw [3,8] (fun v i wr=>∃ (k:Nat) (la:Int),k≤n∧i=.int .i64 k∧v=.int .i64 la∧la=lastD l k∧-1≤la∧(∀ j,j < k→okAt l j=true)∧Below w.heap.size w wr) (fun _ i _=>n - (intOf i).toNat)
 case atStart=>exact ⟨0,-1,by omega,rfl,rfl,rfl,by omega,fun j hj=>by omega,Below.refl _ _⟩
 case round=>
  obtain ⟨k,la,hk,rfl,rfl,hla,hla1,hok,hB⟩:=hrel
  have HOK:=Lib.hid hok
  have HLA:=Lib.hid hla
  have HB:=Lib.hid hB
  clear hok hla hB
  rcases Nat.lt_or_ge k n with hlt | hge
  ·have hlt':(k:Int) < (n:Int):=by omega
   have p0:(0:Int)≤(k:Int):=by omega
   have hw5:IntKind.i64.wrap ((k:Int)+1)=(k:Int)+1:=IntWalk.i64_in _ (by omega)
   obtain ⟨pa,x,SA,da,rfl,hx,-,a0,a1,-,sa⟩:=(HP.out.below HB.out).at k hlt
   have hpx:=pAt_eq hx
   have hxl:=HSL.out x (List.mem_of_getElem? hx)
   obtain ⟨x1,x2⟩:=x
   simp only at a0 a1 sa hxl
   have hbad:okAt l k=false→R=false:=fun e=>by
    rw [Bool.eq_false_iff]
    intro h1
    rw [HR.out.1 h1 k hlt] at e
    cases e
   have hat:okAt l k=true↔la < x1∧x1≤4294967296∧0 < x2.length∧(rises (-1) (poss x2)&&rises (-1) (atss x2))=true:=by
    rw [okAt_iff,hpx,← HLA.out,Bool.and_eq_true]
    simp only
    constructor
    ·rintro ⟨h1,h2,h3,h4,h5,h6⟩;exact ⟨h3,h2,h4,h5,h6⟩
    ·rintro ⟨h1,h2,h3,h4,h5⟩;exact ⟨by omega,h2,h1,h3,h4,h5⟩
   have hnl:lastD l (k+1)=x1:=by unfold lastD;rw [if_neg (by omega),Nat.add_sub_cancel,hpx]
   have HAT:=Lib.hid hat
   have HNL:=Lib.hid hnl
   have HBAD:=Lib.hid hbad
   have hb1:Below wr.heap.size wr (wr.alloc (.cells #[.int .i64 x1,.slice SA x2.length da] 62)):=(Below.refl _ wr).alloc (Nat.le_refl _) _
   have HSA:=Lib.hid (sa.below hb1)
   have HB1:=Lib.hid (below_then HB.out hb1 HB.out.size)
   clear hx hpx sa hbad hat hnl hb1
   by_cases q1:x1≤la
   ·have d1:decide (x1≤la)=true:=decide_eq_true q1
    obtain rfl:R=false:=HBAD.out (by rw [Bool.eq_false_iff];intro e;have:=(HAT.out.1 e).1;omega)
    go_wp2
    go_ret
    exact ⟨rfl,HB1.out⟩
   ·have d1:decide (x1≤la)=false:=decide_eq_false q1
    by_cases q2:4294967296 < x1
    ·have d2:decide ((4294967296:Int) < x1)=true:=decide_eq_true q2
     obtain rfl:R=false:=HBAD.out (by rw [Bool.eq_false_iff];intro e;have:=(HAT.out.1 e).2.1;omega)
     go_wp2
     go_ret
     exact ⟨rfl,HB1.out⟩
    ·have d2:decide ((4294967296:Int) < x1)=false:=decide_eq_false q2
     by_cases q3:x2.length=0
     ·have d3:((x2.length:Int)==0)=true:=by rw [q3];rfl
      obtain rfl:R=false:=HBAD.out (by rw [Bool.eq_false_iff];intro e;have:=(HAT.out.1 e).2.2.1;omega)
      have Q3:=Lib.hid q3
      clear q3
      go_wp2
      go_ret
      exact ⟨rfl,HB1.out⟩
     ·have d3:((x2.length:Int)==0)=false:=beq_eq_false_iff_ne.2 (fun e=>q3 (by omega))
      have Q3:=Lib.hid q3
      clear q3
      go_wp2_with fail
      refine (gRise_any _ SA x2.length da x2 HSA.out (by omega)).mono ?_
      rintro e w2 ⟨rfl,hb2⟩
      have t0:w2.cell? ⟨wr.heap.size,0,none⟩=some (.int .i64 x1):=below_cells hb2 ((Blk.new wr 62 #[.int .i64 x1,.slice SA x2.length da]).cell 0)
      have HB2:=Lib.hid (below_then HB1.out hb2 HB1.out.size)
      clear hb2
      obtain ⟨g,hg⟩:∃ g,g=(rises (-1) (poss x2)&&rises (-1) (atss x2)):=⟨_,rfl⟩
      rw [← hg]
      have HG:=Lib.hid hg
      clear hg
      cases g with
      | false=>
       obtain rfl:R=false:=HBAD.out (by rw [Bool.eq_false_iff];intro e;have:=(HAT.out.1 e).2.2.2;rw [← HG.out] at this;cases this)
       go_wp2
       go_ret
       exact ⟨rfl,HB2.out⟩
      | true=>
       have hgood:okAt l k=true:=HAT.out.2 ⟨by omega,by omega,by have:=Q3.out;omega,HG.out.symm⟩
       have HGD:=Lib.hid hgood
       clear hgood
       go_wp2
       go_roundw
       case rel=>
        exact ⟨k+1,x1,by omega,by go_num,rfl,HNL.out.symm,by omega,fun j hj=>by
         rcases Nat.lt_or_ge j k with h1 | h1
         ·exact HOK.out j h1
         ·obtain rfl:j=k:=by omega
          exact HGD.out,HB2.out⟩
       case measure=>simp [intOf];omega
  ·obtain rfl:k=n:=by omega
   have hlz:¬ ((k:Int) < (k:Int)):=by omega
   obtain rfl:R=true:=HR.out.2 HOK.out
   go_wp2
   go_ret
   exact ⟨rfl,HB.out⟩
theorem gGap_any (w:World) (A:Option Addr) (n c:Nat) (l:List Pst) (h:PostsSee w A n l) (hn:n≤4096) (hV:ValidP l) (f t:Nat) (hft:f < t) (ht:t≤n) (hup:lastD l f < (pAt l (t - 1)).1):
  Calls Tryz.prog 83 #[.slice A n c,.int .i64 f,.int .i64 t] w fun e w'=>∃ v,e=.returned v∧w'.ownsRow w.heap.size 5 1 v (putL ((pAt l (t - 1)).1 - lastD l f - 1).toNat).length ((putL ((pAt l (t - 1)).1 - lastD l f - 1).toNat).map byteV)∧Below w.heap.size w w':=by
 have hlen:=h.len
 obtain ⟨T,hT⟩:∃ T,t=T+1:=⟨t - 1,by omega⟩
 obtain ⟨pa,x,SA,da,rfl,hx,-,a0,-,-,-⟩:=h.at T (by omega)
 have hpx:pAt l (t - 1)=x:=by rw [hT,Nat.add_sub_cancel];exact pAt_eq hx
 have q1:=hV.docs _ (pAt_mem (show t - 1 < l.length by omega))
 have q2:=hV.last (show f≤l.length by omega)
 rw [hpx] at hup q1 ⊢
 obtain ⟨x1,x2⟩:=x
 simp only at a0 hup q1
 have hwt:IntKind.i64.wrap ((t:Int) - 1)=(T:Int):=by rw [show (t:Int) - 1=(T:Int) by omega];exact IntWalk.i64_in _ (by omega)
 have p0:(0:Int)≤(T:Int):=by omega
 have p1:(T:Int) < (n:Int):=by omega
 obtain ⟨b,hb⟩:∃ b,b=lastD l f:=⟨_,rfl⟩
 rw [← hb] at hup q2 ⊢
 obtain ⟨D,hD⟩:∃ D,D=(x1 - b - 1).toNat:=⟨_,rfl⟩
 have hs1:IntKind.i64.wrap (x1 - b)=x1 - b:=IntWalk.i64_in _ (by omega)
 have hs2:IntKind.i64.wrap (x1 - b - 1)=(D:Int):=by rw [show x1 - b - 1=(D:Int) by omega];exact IntWalk.i64_in _ (by omega)
 have hs3:IntKind.u64.wrap (D:Int)=(D:Int):=IntWalk.u64_in _ (by omega)
 have hD64:D < 18446744073709551616:=by omega
 rw [← hD]
 clear hpx hT hx hV
 by_cases hf0:f=0
 ·subst hf0
  obtain rfl:b=-1:=by rw [hb];rfl
  obtain rfl:x1=(D:Int):=by omega
  have hs4:IntKind.i64.wrap ((D:Int)+1)=(D:Int)+1:=IntWalk.i64_in _ (by omega)
  have hs5:IntKind.i64.wrap (D:Int)=(D:Int):=IntWalk.i64_in _ (by omega)
  clear hb h hD hs1 hs2
  go_enter Tryz.func83,Tryz.ntmps83
  go_wp2_with fail
  refine (lPut_any w D hD64).mono ?_
  rintro e w2 ⟨v,rfl,ho,hb⟩
  have HO:=Lib.hid ho
  have HB:=Lib.hid hb
  clear ho hb
  go_wp2
  go_ret
  exact ⟨v,rfl,HO.out,HB.out⟩
 ·obtain ⟨F,hF⟩:∃ F,f=F+1:=⟨f - 1,by omega⟩
  obtain ⟨pb,y,SB,db,hpb,hy,-,b0,-,-,-⟩:=h.at F (by omega)
  obtain rfl:=Option.some.inj hpb
  obtain rfl:b=y.1:=by rw [hb];unfold lastD;rw [if_neg hf0,hF,Nat.add_sub_cancel,pAt_eq hy]
  obtain ⟨y1,y2⟩:=y
  simp only at b0 hup q2 hs1 hs2
  have hwf:IntKind.i64.wrap ((f:Int) - 1)=(F:Int):=by rw [show (f:Int) - 1=(F:Int) by omega];exact IntWalk.i64_in _ (by omega)
  have p2:(0:Int)≤(F:Int):=by omega
  have p3:(F:Int) < (n:Int):=by omega
  have p4:(0:Int) < (f:Int):=by omega
  have d1:decide ((0:Int) < (f:Int))=true:=decide_eq_true p4
  clear hb h hF hy hpb hf0 hD
  go_enter Tryz.func83,Tryz.ntmps83
  go_wp2_with fail
  refine (lPut_any w D hD64).mono ?_
  rintro e w2 ⟨v,rfl,ho,hb⟩
  have HO:=Lib.hid ho
  have HB:=Lib.hid hb
  clear ho hb
  go_wp2
  go_ret
  exact ⟨v,rfl,HO.out,HB.out⟩
theorem apart1 {A A' B:Option Nat} {s:Nat} (h:∀ g,A=some g→B≠some g) (hl:A'=A∨A'=some s) (hB:∀ g,B=some g→g < s):∀ g,A'=some g→B≠some g:=by
 rcases hl with rfl | rfl
 ·exact h
 ·intro g e1 e2
  have:=hB g e2
  have:=Option.some.inj e1
  omega
theorem apart2 {A B B':Option Nat} {s:Nat} (h:∀ g,A=some g→B≠some g) (hl:B'=B∨B'=some s) (hA:∀ g,A=some g→g < s):∀ g,A=some g→B'≠some g:=by
 rcases hl with rfl | rfl
 ·exact h
 ·intro g e1 e2
  have:=hA g e1
  have:=Option.some.inj e2
  omega
theorem one_int_src2 (w:World) (o:Obj) (e:TypeId) (x:Int):Src ((w.alloc o).alloc (.cells #[.int .i64 x] e)) (some ⟨w.heap.size+1,0,none⟩) 1 ([x].map i64V):=by
 have:=one_int_src (w.alloc o) e x
 rwa [World.size_alloc] at this
theorem gSpots_any (w:World) (A:Option Addr) (n c:Nat) (s:List (Int×Int)) (hs:PairsIn w A n s) (hn:n≤4096) (hp:rises (-1) (poss s)=true) (ha:rises (-1) (atss s)=true):
  Calls Tryz.prog 84 #[.slice A n c] w fun e w'=>∃ v,e=.returned v∧w'.ownsRow w.heap.size 5 1 v (putR (poss s)++putR (atss s)).length ((putR (poss s)++putR (atss s)).map byteV)∧Below w.heap.size w w':=by
 obtain ⟨i0,hi,hz0,hz1,hz2⟩:=info_parts int64Info
 have HS:=Lib.hid hs
 have HLEN:=Lib.hid hs.len
 have HV:=Lib.hid hs.vals
 obtain ⟨P,hP⟩:∃ P,P=poss s:=⟨_,rfl⟩
 obtain ⟨Q,hQ⟩:∃ Q,Q=atss s:=⟨_,rfl⟩
 rw [← hP] at hp
 rw [← hQ] at ha
 rw [← hP,← hQ]
 have HPE:=Lib.hid hP
 have HQE:=Lib.hid hQ
 have HRP:=Lib.hid hp
 have HRQ:=Lib.hid ha
 have hPl:P.length=n:=by rw [hP,(poss_len s).1];exact hs.len
 have hQl:Q.length=n:=by rw [hQ,(poss_len s).2];exact hs.len
 have HPL:=Lib.hid hPl
 have HQL:=Lib.hid hQl
 clear hs hP hQ hp ha hPl hQl
 go_enter Tryz.func84,Tryz.ntmps84
 go_wp2
 go_loopw [3,4,13] (fun v u i wr=>∃ k:Nat,k≤n∧i=.int .i64 k∧wr.ownsRow w.heap.size 2 1 v k ((P.take k).map i64V)∧wr.ownsRow w.heap.size 2 1 u k ((Q.take k).map i64V)∧(∀ g,v.ownBlock=some g→u.ownBlock≠some g)∧Below w.heap.size w wr) (fun _ _ i _=>n - (intOf i).toNat)
 case atStart=>exact ⟨0,by omega,rfl,⟨rfl,.inl ⟨rfl,rfl⟩⟩,⟨rfl,.inl ⟨rfl,rfl⟩⟩,(fun g e=>by cases e),Below.refl _ _⟩
 case round=>
  obtain ⟨k,hk,rfl,hO,hU,hne,hB⟩:=hrel
  have HO:=Lib.hid hO
  have HU:=Lib.hid hU
  have HNE:=Lib.hid hne
  have HB:=Lib.hid hB
  clear hO hU hne hB
  obtain ⟨Av,cv,hv⟩:=own_slice HO.out
  obtain ⟨Au,cu,hu⟩:=own_slice HU.out
  subst hv hu
  rcases Nat.lt_or_ge k n with hlt | hge
  ·have hlt':(k:Int) < (n:Int):=by omega
   have p0:(0:Int)≤(k:Int):=by omega
   have hw5:IntKind.i64.wrap ((k:Int)+1)=(k:Int)+1:=IntWalk.i64_in _ (by omega)
   obtain ⟨pa,x,rfl,hx,a0,a1,-,-⟩:=(HS.out.below HB.out).at k hlt
   obtain ⟨x1,x2⟩:=x
   simp only at a0 a1
   have HPT:Hid (P.take (k+1)=P.take k++[x1]):=Lib.hid (by rw [List.take_add_one,HPE.out];simp [poss,hx])
   have HQT:Hid (Q.take (k+1)=Q.take k++[x2]):=Lib.hid (by rw [List.take_add_one,HQE.out];simp [atss,hx])
   clear hx
   have hsz:=HB.out.size
   go_wp2_with ((at_builtin;refine wpList_append_src _ rfl (.tmp 17) (.tmp 20) 196 rfl w.heap.size 2 i0 (.int .i64 0) 8 Tryz.underlying196 hi hz0 hz1 hz2 rfl _ k _ rfl (World.ownsRow.alloc (World.ownsRow.alloc HO.out _) _) _ 1 1 _ rfl (one_int_src2 wr _ 2 x1) (i64V_one [x1]) (by unfold maxLen;omega) (by omega) (by simp;omega) ?_;intro v3 w3 hown hgrow hloc;obtain ⟨A3,c3,hv3⟩:=own_slice hown;subst hv3;have HO3:=Lib.hid hown;have HU3:=Lib.hid (ownsRow_block (World.ownsRow.alloc (World.ownsRow.alloc HU.out (.cells #[.int .i64 x1,.int .i64 x2] 64)) (.cells #[.int .i64 x1] 2)) (w':=w3) fun g hg=>hgrow.block g (by have:=(HU.out.lt g hg).2;simp;omega) (fun e=>HNE.out g e.symm hg));have HB3:=Lib.hid (((HB.out.alloc HB.out.size (.cells #[.int .i64 x1,.int .i64 x2] 64)).alloc (by simp;omega) (.cells #[.int .i64 x1] 2)).grown hgrow (by simp;omega) (fun g hg=>(HO.out.lt g hg).1));have t1:w3.cell? ⟨wr.heap.size,1,none⟩=some (.int .i64 x2):=(((Blk.new wr 64 #[.int .i64 x1,.int .i64 x2]).alloc (.cells #[.int .i64 x1] 2)).grown hgrow (fun e=>by have:=(HO.out.lt _ e.symm).2;omega)).cell 1;have HNE3:Hid (∀ g,(Value.slice A3 (k+1) c3).ownBlock=some g→(Value.slice Au k cu).ownBlock≠some g):=Lib.hid (apart1 HNE.out hloc (fun g e=>by have:=(HU.out.lt g e).2;simp;omega));have hsz3:=HB3.out.size;clear hown hgrow hloc;go_wp2_with (at_builtin;refine wpList_append_src _ rfl (.tmp 22) (.tmp 25) 196 rfl w.heap.size 2 i0 (.int .i64 0) 8 Tryz.underlying196 hi hz0 hz1 hz2 rfl _ k _ rfl (World.ownsRow.alloc HU3.out _) _ 1 1 _ rfl (one_int_src _ 2 x2) (i64V_one [x2]) (by unfold maxLen;omega) (by omega) (by simp;omega) ?_;intro v4 w4 hown hgrow hloc;obtain ⟨A4,c4,hv4⟩:=own_slice hown;subst hv4;have HU4:=Lib.hid hown;have HO4:=Lib.hid (ownsRow_block (World.ownsRow.alloc HO3.out (.cells #[.int .i64 x2] 2)) (w':=w4) fun g hg=>hgrow.block g (by have:=(HO3.out.lt g hg).2;simp;omega) (fun e=>HNE3.out g hg e.symm));have HB4:=Lib.hid ((HB3.out.alloc HB3.out.size (.cells #[.int .i64 x2] 2)).grown hgrow (by simp;omega) (fun g hg=>(HU3.out.lt g hg).1));have HNE4:Hid (∀ g,(Value.slice A3 (k+1) c3).ownBlock=some g→(Value.slice A4 (k+1) c4).ownBlock≠some g):=Lib.hid (apart2 HNE3.out hloc (fun g e=>by have:=(HO3.out.lt g e).2;simp;omega));clear hown hgrow hloc)))
   go_roundw
   case rel=>
    refine ⟨k+1,by omega,by go_num,?_,?_,HNE4.out,HB4.out⟩
    ·rw [HPT.out,List.map_append];exact HO4.out
    ·rw [HQT.out,List.map_append];exact HU4.out
   case measure=>simp [intOf];omega
  ·obtain rfl:k=n:=by omega
   have hlz:¬ ((k:Int) < (k:Int)):=by omega
   have t1:P.take k=P:=List.take_of_length_le (by rw [HPL.out];exact Nat.le_refl _)
   have t2:Q.take k=Q:=List.take_of_length_le (by rw [HQL.out];exact Nat.le_refl _)
   rw [t1] at HO
   rw [t2] at HU
   have HOI:=Lib.hid (IntsIn.own HO.out (by unfold maxLen;omega) (fun x hx=>by
    rw [HPE.out] at hx
    obtain ⟨y,hy,rfl⟩:=List.mem_map.1 hx
    have:=(HV.out y hy).1
    unfold fits64 at this
    exact this))
   have HUI:=Lib.hid (IntsIn.own HU.out (by unfold maxLen;omega) (fun x hx=>by
    rw [HQE.out] at hx
    obtain ⟨y,hy,rfl⟩:=List.mem_map.1 hx
    have:=(HV.out y hy).2
    unfold fits64 at this
    exact this))
   have hpl:=putR_len (by rw [HPL.out];omega) HRP.out (fun x hx=>by
    rw [HPE.out] at hx
    obtain ⟨y,hy,rfl⟩:=List.mem_map.1 hx
    have:=(HV.out y hy).1
    unfold fits64 at this
    exact this.2)
   have hql:=putR_len (by rw [HQL.out];omega) HRQ.out (fun x hx=>by
    rw [HQE.out] at hx
    obtain ⟨y,hy,rfl⟩:=List.mem_map.1 hx
    have:=(HV.out y hy).2
    unfold fits64 at this
    exact this.2)
   have hpos:=putL_pos P.length
   have hp0:0 < (putR P).length:=by unfold putR;rw [List.length_append];omega
   clear t1 t2 hpos
   go_wp2_with fail
   refine (lPutRising_any wr Av k cv P HOI.out (by omega)).mono ?_
   rintro e w2 ⟨v2,n2,rfl,hb2,ho2⟩
   obtain ⟨rfl,hq2⟩:n2=0∧w2.ownsRow wr.heap.size 5 1 v2 (putR P).length ((putR P).map byteV):=by
    rcases ho2 with ⟨_,h2,h3⟩ | ⟨h1,_⟩
    ·exact ⟨h2,h3⟩
    ·rw [HRP.out] at h1;cases h1
   obtain ⟨A2,c2,rfl,hc2⟩:=own_cap hq2
   have HB2:=Lib.hid (below_then HB.out hb2 HB.out.size)
   have HX2:=Lib.hid (BytesIn.own hq2 (by unfold maxLen;omega))
   have HUI2:=Lib.hid (HUI.out.below hb2)
   clear hb2 ho2 hq2
   go_wp2_with fail
   refine (lPutRising_any w2 Au k cu Q HUI2.out (by omega)).mono ?_
   rintro e w3 ⟨v3,n3,rfl,hb3,ho3⟩
   obtain ⟨rfl,hq3⟩:n3=0∧w3.ownsRow w2.heap.size 5 1 v3 (putR Q).length ((putR Q).map byteV):=by
    rcases ho3 with ⟨_,h2,h3⟩ | ⟨h1,_⟩
    ·exact ⟨h2,h3⟩
    ·rw [HRQ.out] at h1;cases h1
   obtain ⟨A3,c3,rfl,hc3⟩:=own_cap hq3
   have HB3:=Lib.hid (below_then HB2.out hb3 HB2.out.size)
   have HX3:=Lib.hid (HX2.out.below hb3)
   have HY3:=Lib.hid (BytesIn.own hq3 (by unfold maxLen;omega))
   clear hb3 ho3 hq3
   go_wp2_with fail
   refine (kConcat_any _ _ 2 2 _ (rows2 w3 A2 A3 c2 c3 (putR P) (putR Q) HX3.out HY3.out hc2 hc3) (by simp;omega) (by simp;omega) (by omega)).mono ?_
   rintro e w4 ⟨v4,rfl,ho4,hb4⟩
   have HB4:=Lib.hid (below_then (HB3.out.alloc HB3.out.size _) hb4 (by have:=HB3.out.size;simp;omega))
   have HO4:=Lib.hid (rowBase_le (base':=w.heap.size) ho4 (by have:=HB3.out.size;simp;omega))
   clear ho4 hb4
   go_wp2
   go_ret
   exact ⟨v4,rfl,by simpa using HO4.out,HB4.out⟩
end Go.Proofs.YthcjikpabpgpfaaGreat
namespace Go.Proofs.YthcjikpabpgpfaaGreat
open Go.RowKit Go.Maps Go.WideMaps Go.Shelf
def RetB (w:World) (x:Nm) (e:Ending) (w':World):Prop:=∃ v,e=.returned v∧w'.ownsRow w.heap.size 5 1 v x.length (x.map byteV)∧Below w.heap.size w w'
theorem gInB_any {w:World} {ga ge g7 g8 g9 a e fo fa:Nat} {co ca:Array Value} {A:Option Addr} {k c:Nat} {x:Nm} (ha:Blk w ga 3 #[.int .i64 a]) (he:Blk w ge 3 #[.int .i64 e]) (h7:Blk w g7 82 #[.func (.func fo) #[] co]) (h8:Blk w g8 162 #[.func (.func fa) #[] ca]) (h9:Blk w g9 52 #[.slice A k c]) (hk:0 < k)
  (hin:Calls Tryz.prog 86 #[.int .i64 a,.int .i64 e,.func (.func fo) #[] co,.func (.func fa) #[] ca,.slice (cutAddr A 1 c) (k - 1) (c - 1)] w.drew (RetB w x)):
  Calls Tryz.prog 134 #[at0 ga,at0 ge,at0 g7,at0 g8,at0 g9] w (RetB w x):=by
 have a0:=ha.drew.cell 0
 have e0:=he.drew.cell 0
 have f0:=h7.drew.cell 0
 have r0:=h8.drew.cell 0
 have s0:=h9.drew.cell 0
 simp at a0 e0 f0 r0 s0
 have hsl:∀ w,(Instr.slice 52 (.slice A k c) (some (.int .i64 1)) none none).run Tryz.prog w=.ok (.slice (cutAddr A 1 c) (k - 1) (c - 1)) w:=fun w=>by
  have:=ints_from w A k c 1 (by omega)
  simpa using this
 have HIN:=Lib.hid hin
 clear ha he h7 h8 h9 hin
 unfold at0
 go_enter Tryz.func134,Tryz.ntmps134
 go_wp2_with fail
 go_still_tail 6,(by kernel_rfl)
 change wpList _ _ _ _ _ w.drew
 go_wp2_with fail
 refine HIN.out.mono ?_
 rintro e w2 ⟨v,rfl,ho,hb⟩
 have HO:=Lib.hid ho
 have HB:=Lib.hid hb
 clear ho hb
 go_wp2
 go_ret
 exact ⟨v,rfl,HO.out,HB.out⟩
theorem gPartsBS (wB:World) (fo fa:Nat) (co ca:Array Value) (ega:∀ args w,(callFunc fa args).run Tryz.prog w=.ok (.enter fa args) w) (ad:Addr) (k c s:Nat) (hk:0 < k) (hs0:0 < s) (hs:s≤16) (hcell:wB.cell? ad=some (.int .i64 s))
  (f t:Nat) (hft:f≤t) (ht:t≤4096) (P:Nat→Prop) (G X:Nat→Nm) (hP0:P f) (hPs:∀ a,P a→a < t→P (a+s)) (hG0:G f=[]) (hGs:∀ a,P a→a < t→G (min (a+s) t)=G a++X a) (hGl:∀ a,a≤t→(G a).length≤1099511627776)
  (har:∀ (w:World) (a ga ge g7 g8 g9:Nat),Below wB.heap.size wB w→P a→a < t→Blk w ga 3 #[.int .i64 a]→Blk w ge 3 #[.int .i64 (min (a+s) t:Nat)]→Blk w g7 82 #[.func (.func fo) #[] co]→Blk w g8 162 #[.func (.func fa) #[] ca]→Blk w g9 52 #[.slice (some ad) k c]→
   Calls Tryz.prog fa (#[.int .i64 a,.int .i64 (min (a+s) t:Nat),.func (.func 134) #[] #[at0 ga,at0 ge,at0 g7,at0 g8,at0 g9]]++ca) w (RetB w (X a)))
  (w:World) (hw:Below wB.heap.size wB w):
  Calls Tryz.prog 86 #[.int .i64 f,.int .i64 t,.func (.func fo) #[] co,.func (.func fa) #[] ca,.slice (some ad) k c] w (RetB w (G t)):=by
 obtain ⟨i0,hi,hz0,hz1,hz2⟩:=info_parts byteInfo
 have HC:=Lib.hid hcell
 have HW:=Lib.hid hw
 have HAR:=Lib.hid har
 have HPS:=Lib.hid hPs
 have HGS:=Lib.hid hGs
 have HGL:=Lib.hid hGl
 have HG0:=Lib.hid hG0
 have HP0:=Lib.hid hP0
 have d0:((k:Int)==0)=false:=beq_eq_false_iff_ne.2 (by omega)
 clear hcell hw har hPs hGs hGl hG0 hP0
 go_enter Tryz.func86,Tryz.ntmps86
 go_wp2
 go_loopw [11,13] (fun v p wr=>∃ (a g:Nat) (y:Nm),p=at0 g∧P a∧f≤a∧a≤t+16∧y=G (min a t)∧wr.ownsRow (w.heap.size+3) 5 1 v y.length (y.map byteV)∧(∀ i,v.ownBlock=some i→i≠g)∧w.heap.size+3≤g∧Blk wr g 3 #[.int .i64 a]∧Below w.heap.size w wr∧Blk wr w.heap.size 82 #[.func (.func fo) #[] co]∧Blk wr (w.heap.size+1) 162 #[.func (.func fa) #[] ca]∧Blk wr (w.heap.size+1+1) 52 #[.slice (some ad) k c]) (fun _ p wr=>t+16 - cellNat wr p)
 case atStart=>
  have b1:=Blk.new w 82 #[.func (.func fo) #[] co]
  have b2:=Blk.new (w.alloc (.cells #[.func (.func fo) #[] co] 82)) 162 #[.func (.func fa) #[] ca]
  have b3:=Blk.new ((w.alloc (.cells #[.func (.func fo) #[] co] 82)).alloc (.cells #[.func (.func fa) #[] ca] 162)) 52 #[.slice (some ad) k c]
  have b4:=Blk.new (((w.alloc (.cells #[.func (.func fo) #[] co] 82)).alloc (.cells #[.func (.func fa) #[] ca] 162)).alloc (.cells #[.slice (some ad) k c] 52)) 3 #[.int .i64 (f:Int)]
  simp only [World.size_alloc] at b2 b3 b4
  exact ⟨f,w.heap.size+1+1+1,[],rfl,HP0.out,Nat.le_refl _,by omega,by rw [Nat.min_eq_left hft,HG0.out],⟨rfl,.inl ⟨rfl,rfl⟩⟩,(fun i e=>by cases e),by omega,b4,(((((Below.refl _ w).alloc (Nat.le_refl _) _).alloc (by simp) _).alloc (by simp;omega) _).alloc (by simp;omega) _),((b1.alloc _).alloc _).alloc _,(b2.alloc _).alloc _,b3.alloc _⟩
 case round=>
  obtain ⟨a,g,y,rfl,hp,hfa,hat,hy,hO,hne,hg,hG,hB,h7,h8,h9⟩:=hrel
  have HPA:=Lib.hid hp
  have HY:=Lib.hid hy
  have HO:=Lib.hid hO
  have HNE:=Lib.hid hne
  have HGK:=Lib.hid hG
  have HB:=Lib.hid hB
  have H7:=Lib.hid h7
  have H8:=Lib.hid h8
  have H9:=Lib.hid h9
  have c0:=hG.cell 0
  have c7:=h7.cell 0
  have c8:=h8.cell 0
  have c9:=h9.cell 0
  have cs:=below_cells (HW.out.trans (hB.mono HW.out.size)) HC.out
  simp at c0 c7 c8 c9
  clear hp hy hO hne hG hB h7 h8 h9
  obtain ⟨Av,cv,hv⟩:=own_slice HO.out
  subst hv
  unfold at0
  rcases Nat.lt_or_ge a t with hlt | hge
  ·have hlt':(a:Int) < (t:Int):=by omega
   obtain ⟨E,hE⟩:∃ E,E=min (a+s) t:=⟨_,rfl⟩
   have hmin:∀ w ty,(Builtin.min_ #[3,3] ty #[.int .i64 ((a:Int)+(s:Int)),.int .i64 (t:Int)]).run Tryz.prog w=.ok (.int .i64 (E:Int)) w:=fun w ty=>by
    rw [Lib.run_min_ints,show min ((a:Int)+(s:Int)) (t:Int)=(E:Int) by omega]
   have hw1:IntKind.i64.wrap ((a:Int)+(s:Int))=(a:Int)+(s:Int):=IntWalk.i64_in _ (by omega)
   have k0:(0:Int) < (k:Int):=by omega
   have a0:ad.add 0=ad:=by simp [Addr.add]
   have HE:=Lib.hid hE
   clear hE
   have u0:(wr.alloc (.cells #[.int .i64 0] 3)).cell? ⟨g,0,none⟩=some (.int .i64 a):=(HGK.out.alloc _).cell 0
   have u9:(wr.alloc (.cells #[.int .i64 0] 3)).cell? ⟨w.heap.size+1+1,0,none⟩=some (.slice (some ad) k c):=(H9.out.alloc _).cell 0
   have us:(wr.alloc (.cells #[.int .i64 0] 3)).cell? ad=some (.int .i64 s):=below_cells ((Below.refl _ wr).alloc (Nat.le_refl _) _) cs
   go_wp2_with fail
   go_region
   obtain ⟨W1,hW1⟩:∃ W1,W1=(wr.alloc (.cells #[.int .i64 (E:Int)] 3)).drew:=⟨_,rfl⟩
   rw [← hW1]
   have hb1:Below wr.heap.size wr W1:=by rw [hW1];exact ((Below.refl _ wr).alloc (Nat.le_refl _) _).drew
   have HEK:Hid (Blk W1 wr.heap.size 3 #[.int .i64 (E:Int)]):=Lib.hid (by rw [hW1];exact (Blk.new _ _ _).drew)
   have HB1:=Lib.hid hb1
   have HG1:=Lib.hid (HGK.out.below hb1 HGK.out.lt)
   have H71:=Lib.hid (H7.out.below hb1 H7.out.lt)
   have H81:=Lib.hid (H8.out.below hb1 H8.out.lt)
   have H91:=Lib.hid (H9.out.below hb1 H9.out.lt)
   have HO1:=Lib.hid (ownsRow_block HO.out (w':=W1) fun i e=>hb1.block i (HO.out.lt i e).2)
   have HW1:=Lib.hid (HW.out.trans ((below_then HB.out hb1 HB.out.size).mono HW.out.size))
   have hsz1:W1.heap.size=wr.heap.size+1:=by rw [hW1];simp
   have k0:=HG1.out.cell 0
   have k7:=H71.out.cell 0
   have k8:=H81.out.cell 0
   have ke:=HEK.out.cell 0
   simp at k0 k7 k8 ke
   have hx:=HAR.out W1 a g wr.heap.size w.heap.size (w.heap.size+1) (w.heap.size+1+1) HW1.out HPA.out hlt HG1.out (by rw [← HE.out];exact HEK.out) H71.out H81.out H91.out
   rw [← HE.out] at hx
   unfold at0 at hx
   have HX:=Lib.hid hx
   have hgs:=HGS.out a HPA.out hlt
   rw [← HE.out] at hgs
   have hyl:=HGL.out (min a t) (Nat.min_le_right _ _)
   have hel:=HGL.out E (by rw [HE.out];exact Nat.min_le_right _ _)
   have hya:y=G a:=by rw [HY.out,Nat.min_eq_left (Nat.le_of_lt hlt)]
   rw [← HY.out] at hyl
   rw [← hya] at hgs
   rw [hgs,List.length_append] at hel
   have HGE:=Lib.hid hgs
   obtain ⟨x,hxe⟩:∃ x,x=X a:=⟨_,rfl⟩
   rw [← hxe] at HX HGE hel
   have hps:=HPS.out a HPA.out hlt
   have HPN:=Lib.hid hps
   clear hW1 hb1 u0 u9 us hx hgs hya hxe hps
   go_wp2_with fail
   refine HX.out.mono ?_
   rintro e w2 ⟨v2,rfl,ho2,hb2⟩
   obtain ⟨A2,c2,rfl,hc2⟩:=own_cap ho2
   have HX2:=Lib.hid (BytesIn.own ho2 (by unfold maxLen;omega))
   have HB2:=Lib.hid (below_then HB1.out hb2 HB1.out.size)
   have HB02:=Lib.hid (below_then HB.out HB2.out HB.out.size)
   have HO2:=Lib.hid (ownsRow_block HO1.out (w':=w2) fun i e=>hb2.block i (HO1.out.lt i e).2)
   have HG2:=Lib.hid (HG1.out.below hb2 HG1.out.lt)
   have H72:=Lib.hid (H71.out.below hb2 H71.out.lt)
   have H82:=Lib.hid (H81.out.below hb2 H81.out.lt)
   have H92:=Lib.hid (H91.out.below hb2 H91.out.lt)
   have hsz2:=hb2.size
   have hwz:=HB.out.size
   have hgz:=HGK.out.lt
   have hws:=HW.out.size
   clear ho2 hb2 k0 k7 k8 ke c0 c7 c8 c9 cs
   go_wp2_with (at_builtin;refine wpList_append_src _ rfl (.tmp 46) (.tmp 51) 24 rfl (w.heap.size+3) 5 i0 (.int .u8 0) 1 Tryz.underlying24 hi hz0 hz1 hz2 rfl _ y.length (y.map byteV) rfl HO2.out A2 x.length c2 (x.map byteV) rfl HX2.out.2.1 (u8_one x) (by unfold maxLen;omega) (by omega) (by omega) ?_;intro v3 w3 hown3 hgrow3 hloc3;obtain ⟨A3,c3,hv3⟩:=own_slice hown3;subst hv3;have HO3:=Lib.hid hown3;have HB3:=Lib.hid (HB02.out.grown hgrow3 (by omega) (fun i e=>by have:=(HO2.out.lt i e).1;omega));have HG3:=Lib.hid (HG2.out.grown hgrow3 (fun e=>HNE.out g e.symm rfl));have H73:=Lib.hid (H72.out.grown hgrow3 (fun e=>by have:=(HO2.out.lt _ e.symm).1;omega));have H83:=Lib.hid (H82.out.grown hgrow3 (fun e=>by have:=(HO2.out.lt _ e.symm).1;omega));have H93:=Lib.hid (H92.out.grown hgrow3 (fun e=>by have:=(HO2.out.lt _ e.symm).1;omega));have g0:w3.cell? ⟨g,0,none⟩=some (.int .i64 (a:Int)):=HG3.out.cell 0;have u9:(w3.alloc (.cells #[.int .i64 (a:Int)] 3)).cell? ⟨w.heap.size+1+1,0,none⟩=some (.slice (some ad) k c):=(H93.out.alloc _).cell 0;have us:(w3.alloc (.cells #[.int .i64 (a:Int)] 3)).cell? ad=some (.int .i64 (s:Int)):=below_cells ((HW.out.trans (HB3.out.mono HW.out.size)).alloc (Nat.le_trans HW.out.size HB3.out.size) _) HC.out;have hsz3:=HB3.out.size;clear hown3 hgrow3 hloc3)
   go_region
   go_wp2
   go_roundw
   case rel=>
    have hg3:=HG3.out.lt
    refine ⟨a+s,w3.heap.size,y++x,rfl,HPN.out,by omega,by omega,by rw [← HE.out];exact HGE.out.symm,?_,?_,by omega,?_,(HB3.out.alloc HB3.out.size _).drew,(H73.out.alloc _).drew,(H83.out.alloc _).drew,(H93.out.alloc _).drew⟩
    ·rw [List.length_append,List.map_append]
     exact own_alloc HO3.out _
    ·intro i e
     have:=(HO3.out.lt i e).2
     omega
    ·have h1:=Blk.new w3 3 #[.int .i64 ((a:Int)+(s:Int))]
     rw [show ((a+s:Nat):Int)=(a:Int)+(s:Int) by omega]
     exact h1.drew
   case measure=>
    have h1:=cellNat_at ((Blk.new w3 3 #[.int .i64 ((a:Int)+(s:Int))]).drew)
    have h2:=cellNat_at HGK.out
    unfold at0 at h1 h2
    show t+16 - cellNat _ _ < t+16 - cellNat _ _
    rw [h1,h2]
    omega
  ·have hz:¬ ((a:Int) < (t:Int)):=by omega
   have hfin:y=G t:=by rw [HY.out,Nat.min_eq_right hge]
   have HF:=Lib.hid hfin
   clear hfin
   go_wp2
   go_ret
   exact ⟨_,rfl,by rw [← HF.out];exact rowBase_le HO.out (by omega),HB.out⟩
theorem gPartsB0 (wB:World) (fo fa:Nat) (co ca:Array Value) (ego:∀ args w,(callFunc fo args).run Tryz.prog w=.ok (.enter fo args) w) (A:Option Addr) (c:Nat)
  (f t:Nat) (hft:f≤t) (ht:t≤4096) (U:Nat→Nm) (hGl:∀ k,k≤t - f→(cat U f k).length≤1099511627776)
  (hon:∀ (w:World) (i:Nat),Below wB.heap.size wB w→f≤i→i < t→Calls Tryz.prog fo (#[.int .i64 i]++co) w (RetB w (U i)))
  (w:World) (hw:Below wB.heap.size wB w):
  Calls Tryz.prog 86 #[.int .i64 f,.int .i64 t,.func (.func fo) #[] co,.func (.func fa) #[] ca,.slice A 0 c] w (RetB w (cat U f (t - f))):=by
 obtain ⟨i0,hi,hz0,hz1,hz2⟩:=info_parts byteInfo
 have HW:=Lib.hid hw
 have HON:=Lib.hid hon
 have HGL:=Lib.hid hGl
 clear hw hon hGl
 go_enter Tryz.func86,Tryz.ntmps86
 go_wp2
 go_loopw [11,12] (fun v i wr=>∃ (k:Nat) (y:Nm),f+k≤t∧i=.int .i64 (f+k:Nat)∧y=cat U f k∧wr.ownsRow (w.heap.size+3) 5 1 v y.length (y.map byteV)∧Below w.heap.size w wr∧w.heap.size+3≤wr.heap.size∧Blk wr w.heap.size 82 #[.func (.func fo) #[] co]) (fun _ i _=>t - (intOf i).toNat)
 case atStart=>
  have b1:=Blk.new w 82 #[.func (.func fo) #[] co]
  exact ⟨0,[],by omega,rfl,rfl,⟨rfl,.inl ⟨rfl,rfl⟩⟩,((((Below.refl _ w).alloc (Nat.le_refl _) _).alloc (by simp) _).alloc (by simp;omega) _),by simp,(b1.alloc _).alloc _⟩
 case round=>
  obtain ⟨k,y,hk,rfl,hy,hO,hB,hsz,h7⟩:=hrel
  have HY:=Lib.hid hy
  have HO:=Lib.hid hO
  have HB:=Lib.hid hB
  have H7:=Lib.hid h7
  have c7:=h7.cell 0
  simp at c7
  clear hy hO hB h7
  obtain ⟨Av,cv,hv⟩:=own_slice HO.out
  subst hv
  obtain ⟨i,hi'⟩:∃ i,i=f+k:=⟨_,rfl⟩
  rw [← hi'] at hk ⊢
  rcases Nat.lt_or_ge i t with hlt | hge
  ·have hlt':(i:Int) < (t:Int):=by omega
   have hw5:IntKind.i64.wrap ((i:Int)+1)=(i:Int)+1:=IntWalk.i64_in _ (by omega)
   have hx:=HON.out wr i (HW.out.trans (HB.out.mono HW.out.size)) (by omega) hlt
   have hel:=HGL.out (k+1) (by omega)
   have hyl:=HGL.out k (by omega)
   have hce:cat U f (k+1)=y++U i:=by rw [cat,HY.out,hi']
   rw [hce,List.length_append] at hel
   rw [← HY.out] at hyl
   obtain ⟨x,hxe⟩:∃ x,x=U i:=⟨_,rfl⟩
   rw [← hxe] at hx hel hce
   have HX:=Lib.hid hx
   have HCE:=Lib.hid hce
   have HI:=Lib.hid hi'
   clear hx hce hxe hi'
   go_wp2_with fail
   refine HX.out.mono ?_
   rintro e w2 ⟨v2,rfl,ho2,hb2⟩
   obtain ⟨A2,c2,rfl,hc2⟩:=own_cap ho2
   have HX2:=Lib.hid (BytesIn.own ho2 (by unfold maxLen;omega))
   have HB2:=Lib.hid (below_then HB.out hb2 HB.out.size)
   have HO2:=Lib.hid (ownsRow_block HO.out (w':=w2) fun i e=>hb2.block i (HO.out.lt i e).2)
   have H72:=Lib.hid (H7.out.below hb2 H7.out.lt)
   have hsz2:=hb2.size
   clear ho2 hb2 c7
   go_wp2_with (at_builtin;refine wpList_append_src _ rfl (.tmp 24) (.tmp 27) 24 rfl (w.heap.size+3) 5 i0 (.int .u8 0) 1 Tryz.underlying24 hi hz0 hz1 hz2 rfl _ y.length (y.map byteV) rfl HO2.out A2 x.length c2 (x.map byteV) rfl HX2.out.2.1 (u8_one x) (by unfold maxLen;omega) (by omega) (by omega) ?_;intro v3 w3 hown3 hgrow3 hloc3;have HO3:=Lib.hid hown3;have HB3:=Lib.hid (HB2.out.grown hgrow3 (by omega) (fun i e=>by have:=(HO2.out.lt i e).1;omega));have H73:=Lib.hid (H72.out.grown hgrow3 (fun e=>by have:=(HO2.out.lt _ e.symm).1;omega));have hsz3:=hgrow3.size;clear hown3 hgrow3 hloc3)
   go_roundw
   case rel=>
    exact ⟨k+1,y++x,by have:=HI.out;omega,by have:=HI.out;go_num,HCE.out.symm,by rw [List.length_append,List.map_append];exact HO3.out,HB3.out,by omega,H73.out⟩
   case measure=>simp [intOf];omega
  ·have hz:¬ ((i:Int) < (t:Int)):=by omega
   have hfin:y=cat U f (t - f):=by rw [HY.out,show t - f=k by omega]
   have HF:=Lib.hid hfin
   clear hfin hi'
   go_wp2
   go_ret
   exact ⟨_,rfl,by rw [← HF.out];exact rowBase_le HO.out (by omega),HB.out⟩
theorem RetB.drew {w w':World} {x:Nm} {e:Ending} (h:RetB w.drew x e w'):RetB w x e w':=by
 obtain ⟨v,h1,h2,h3⟩:=h
 exact ⟨v,h1,h2,⟨h3.os,h3.tape,h3.output,h3.size,h3.block⟩⟩
theorem gOne_any (w:World) (b:Nat) (A:Option Addr) (n c:Nat) (l:List Pst) (h:PostsSee w A n l) (hb:Blk w b 56 #[.slice A n c]) (hn:n≤4096) (hV:ValidP l) (i:Nat) (hi:i < n):
  Calls Tryz.prog 82 (#[.int .i64 i]++#[at0 b]) w (RetB w (unitB l i)):=by
 have hlen:=h.len
 have HP:=Lib.hid h
 have hmem:=pAt_mem (show i < l.length by omega)
 obtain ⟨pa,x,SA,da,rfl,hx,-,-,a1,hda,sa⟩:=h.at i hi
 have hpx:=pAt_eq hx
 have hup:=hV.up i (by omega)
 have hgap:=fun w' (hw':PostsSee w' (some pa) n l)=>gGap_any w' (some pa) n c l hw' hn hV i (i+1) (by omega) (by omega) (by rw [Nat.add_sub_cancel];exact hup)
 rw [show ((i+1:Nat):Int)=(i:Int)+1 by omega] at hgap
 have hs1:=hV.spots _ hmem
 have hs2:=hV.pos _ hmem
 have hs3:=hV.at_ _ hmem
 have hs4:=poss_le (hV.fit _ hmem)
 have hu:unitB l i=putL ((pAt l i).1 - lastD l i - 1).toNat++(putR (poss (pAt l i).2)++putR (atss (pAt l i).2)):=rfl
 obtain ⟨D,hD⟩:∃ D,D=((pAt l i).1 - lastD l i - 1).toNat:=⟨_,rfl⟩
 simp only [Nat.add_sub_cancel] at hgap
 rw [← hD] at hu hgap
 rw [hpx] at hs1 hs2 hs3 hs4 hu
 have hdl:(putL D).length≤10:=by
  have q1:=hV.docs _ hmem
  have q2:=hV.last (show i≤l.length by omega)
  exact putL_len D (by omega)
 have hpl:=putR_len (by rw [(poss_len x.2).1];exact hs1) hs2 hs4.1
 have hal:=putR_len (by rw [(poss_len x.2).2];exact hs1) hs3 hs4.2
 have hpos:=putL_pos D
 obtain ⟨x1,x2⟩:=x
 simp only at a1 hda sa hs1 hs2 hs3 hu hpl hal
 have b0:=hb.cell 0
 simp at b0
 have hw1:IntKind.i64.wrap ((i:Int)+1)=(i:Int)+1:=IntWalk.i64_in _ (by omega)
 have p0:(0:Int)≤(i:Int):=by omega
 have p1:(i:Int) < (n:Int):=by omega
 have HGAP:=Lib.hid hgap
 have HSA:=Lib.hid sa
 have HU:=Lib.hid hu
 have HR1:=Lib.hid hs2
 have HR2:=Lib.hid hs3
 clear h hx hpx hup hgap hmem hs4 hD hV hu sa hb hs2 hs3
 unfold at0
 rw [HU.out]
 obtain ⟨Z,hZ⟩:∃ Z,Z=putR (poss x2)++putR (atss x2):=⟨_,rfl⟩
 rw [← hZ]
 have HZ:=Lib.hid hZ
 have hzl:Z.length≤81940:=by rw [hZ,List.length_append];omega
 clear hZ hpl hal
 obtain ⟨Y,hY⟩:∃ Y,Y=putL D:=⟨_,rfl⟩
 rw [← hY] at HGAP hdl hpos ⊢
 clear hY HU
 simp only [List.append_toArray,List.cons_append,List.nil_append]
 go_enter Tryz.func82,Tryz.ntmps82
 go_wp2_with fail
 refine wp_region_held_drew (S:=fun w'=>w'.cell? ⟨b,0,none⟩=some (.slice (some pa) n c)∧w'.cell? ⟨(pa.add (i * 2)).block,(pa.add (i * 2)).off+1,none⟩=some (.slice SA x2.length da)) (by kernel_rfl) ?_ (fun hHeld=>?_)
 ·exact ⟨b0,a1⟩
 refine wpAnyH_take (i:=0) (oi:=?oit0) (v:=?vt0) ?hit0 (by kernel_rfl) (by kernel_rfl) (by kernel_rfl) ?hQt0 (Or.inl ⟨?hwt0,?hyt0⟩) (by assumption) ?restt0
 case hit0=>(first | (simp only [lz0,lz1,lz2];rfl) | rfl)
 case hQt0=>exact fun _ _ _ h=>h
 case hwt0=>rfl
 case hyt0=>((intro w hSw;obtain ⟨hS1,hS2⟩:=hSw;go_simp);first | done | with_reducible rfl)
 try simp only [Act.put,lz3,lz4,lz5]
 refine wpAnyH_take (i:=1) (oi:=?oit1) (v:=?vt1) ?hit1 (by kernel_rfl) (by kernel_rfl) (by kernel_rfl) ?hQt1 (Or.inl ⟨?hwt1,?hyt1⟩) (by assumption) ?restt1
 case hit1=>(first | (simp only [lz0,lz1,lz2];rfl) | rfl)
 case hQt1=>exact fun _ _ _ h=>h
 case hwt1=>rfl
 case hyt1=>((intro w hSw;obtain ⟨hS1,hS2⟩:=hSw;go_simp);first | done | with_reducible rfl)
 try simp only [Act.put,lz3,lz4,lz5]
 refine wpAnyH_take (i:=2) (oi:=?oit2) (v:=?vt2) ?hit2 (by kernel_rfl) (by kernel_rfl) (by kernel_rfl) ?hQt2 (Or.inl ⟨?hwt2,?hyt2⟩) (by assumption) ?restt2
 case hit2=>(first | (simp only [lz0,lz1,lz2];rfl) | rfl)
 case hQt2=>exact fun _ _ _ h=>h
 case hwt2=>rfl
 case hyt2=>((intro w hSw;obtain ⟨hS1,hS2⟩:=hSw;go_simp);first | done | with_reducible rfl)
 try simp only [Act.put,lz3,lz4,lz5]
 refine wpAnyH_take (i:=3) (oi:=?oit3) (v:=?vt3) ?hit3 (by kernel_rfl) (by kernel_rfl) (by kernel_rfl) ?hQt3 (Or.inl ⟨?hwt3,?hyt3⟩) (by assumption) ?restt3
 case hit3=>(first | (simp only [lz0,lz1,lz2];rfl) | rfl)
 case hQt3=>exact fun _ _ _ h=>h
 case hwt3=>rfl
 case hyt3=>((intro w hSw;obtain ⟨hS1,hS2⟩:=hSw;go_simp);first | done | with_reducible rfl)
 try simp only [Act.put,lz3,lz4,lz5]
 refine wpAnyH_take (i:=5) (oi:=?oit5) (v:=?vt5) ?hit5 (by kernel_rfl) (by kernel_rfl) (by kernel_rfl) ?hQt5 (Or.inl ⟨?hwt5,?hyt5⟩) (by assumption) ?restt5
 case hit5=>(first | (simp only [lz0,lz1,lz2];rfl) | rfl)
 case hQt5=>exact fun _ _ _ h=>h
 case hwt5=>rfl
 case hyt5=>((intro w hSw;obtain ⟨hS1,hS2⟩:=hSw;go_simp);first | done | with_reducible rfl)
 try simp only [Act.put,lz3,lz4,lz5]
 refine wpAnyH_take (i:=6) (oi:=?oit6) (v:=?vt6) ?hit6 (by kernel_rfl) (by kernel_rfl) (by kernel_rfl) ?hQt6 (Or.inl ⟨?hwt6,?hyt6⟩) (by assumption) ?restt6
 case hit6=>(first | (simp only [lz0,lz1,lz2];rfl) | rfl)
 case hQt6=>exact fun _ _ _ h=>h
 case hwt6=>rfl
 case hyt6=>((intro w hSw;obtain ⟨hS1,hS2⟩:=hSw;go_simp);first | done | with_reducible rfl)
 try simp only [Act.put,lz3,lz4,lz5]
 refine wpAnyH_take (i:=7) (oi:=?oit7) (v:=?vt7) ?hit7 (by kernel_rfl) (by kernel_rfl) (by kernel_rfl) ?hQt7 (Or.inl ⟨?hwt7,?hyt7⟩) (by assumption) ?restt7
 case hit7=>(first | (simp only [lz0,lz1,lz2];rfl) | rfl)
 case hQt7=>exact fun _ _ _ h=>h
 case hwt7=>rfl
 case hyt7=>((intro w hSw;obtain ⟨hS1,hS2⟩:=hSw;go_simp);first | done | with_reducible rfl)
 try simp only [Act.put,lz3,lz4,lz5]
 refine wpAnyH_take (i:=8) (oi:=?oit8) (v:=?vt8) ?hit8 (by kernel_rfl) (by kernel_rfl) (by kernel_rfl) ?hQt8 (Or.inl ⟨?hwt8,?hyt8⟩) (by assumption) ?restt8
 case hit8=>(first | (simp only [lz0,lz1,lz2];rfl) | rfl)
 case hQt8=>exact fun _ _ _ h=>h
 case hwt8=>rfl
 case hyt8=>((intro w hSw;obtain ⟨hS1,hS2⟩:=hSw;go_simp);first | done | with_reducible rfl)
 try simp only [Act.put,lz3,lz4,lz5]
 refine wpAnyH_take (i:=9) (oi:=?oit9) (v:=?vt9) ?hit9 (by kernel_rfl) (by kernel_rfl) (by kernel_rfl) ?hQt9 (Or.inl ⟨?hwt9,?hyt9⟩) (by assumption) ?restt9
 case hit9=>(first | (simp only [lz0,lz1,lz2];rfl) | rfl)
 case hQt9=>exact fun _ _ _ h=>h
 case hwt9=>rfl
 case hyt9=>((intro w hSw;obtain ⟨hS1,hS2⟩:=hSw;go_simp);first | done | with_reducible rfl)
 try simp only [Act.put,lz3,lz4,lz5]
 refine wpAnyH_ready (rs:=[4]) (by kernel_rfl) (by simp) ?_
 refine AllReadyH.cons (o:=?oc1) ?hcc1 ?stc1 AllReadyH.nil
 case hcc1=>(simp only [lz0,lz1,lz2];rfl)
 intro K hK
 go_simp
 refine (HGAP.out w.drew (HP.out.below ⟨rfl,rfl,rfl,Nat.le_refl _,fun _ _=>rfl⟩)).mono ?_
 rintro e w2 ⟨v2,rfl,ho2,hb2⟩
 have hb2':Below w.heap.size w w2:=⟨hb2.os,hb2.tape,hb2.output,hb2.size,hb2.block⟩
 obtain ⟨A2,c2,rfl,hc2⟩:=own_cap ho2
 have HX2:=Lib.hid (BytesIn.own ho2 (by unfold maxLen;omega))
 have HB2:=Lib.hid hb2'
 have hS2:=And.intro (below_cells hb2' b0) (below_cells hb2' a1)
 clear ho2 hb2 hb2'
 go_wp2_with fail
 refine hK.out _ _ hS2 (fun _=>?_)
 clear hK K
 refine wpAnyH_ready (rs:=[10]) (by kernel_rfl) (by simp) ?_
 refine AllReadyH.cons (o:=?oc2) ?hcc2 ?stc2 AllReadyH.nil
 case hcc2=>(simp only [lz0,lz1,lz2];rfl)
 intro K hK
 go_simp
 refine (gSpots_any w2 SA x2.length da x2 (HSA.out.below HB2.out) hs1 HR1.out HR2.out).mono ?_
 rw [← HZ.out]
 rintro e w3 ⟨v3,rfl,ho3,hb3⟩
 obtain ⟨A3,c3,rfl,hc3⟩:=own_cap ho3
 have HB3:=Lib.hid (below_then HB2.out hb3 HB2.out.size)
 have HX3:=Lib.hid (HX2.out.below hb3)
 have HY3:=Lib.hid (BytesIn.own ho3 (by unfold maxLen;omega))
 have hS3:=And.intro (below_cells hb3 hS2.1) (below_cells hb3 hS2.2)
 clear ho3 hb3
 go_wp2_with fail
 refine hK.out _ _ hS3 (fun _=>?_)
 clear hK K
 refine wpAnyH_ready (rs:=[11]) (by kernel_rfl) (by simp) ?_
 refine AllReadyH.cons (o:=?oc3) ?hcc3 ?stc3 AllReadyH.nil
 case hcc3=>(simp only [lz0,lz1,lz2];rfl)
 intro K hK
 go_simp
 have hbw:Below w3.heap.size w3 (w3.alloc (.cells #[.slice A2 Y.length c2,.slice A3 Z.length c3] 24)):=(Below.refl _ w3).alloc (Nat.le_refl _) _
 have hS4:=And.intro (below_cells hbw hS3.1) (below_cells hbw hS3.2)
 refine hK.out _ _ hS4 (fun _=>?_)
 clear hK K
 try simp only [Act.put,lz3,lz4,lz5]
 refine wpAnyH_ready (rs:=[12]) (by kernel_rfl) (by simp) ?_
 refine AllReadyH.cons (o:=?oc4) ?hcc4 ?stc4 AllReadyH.nil
 case hcc4=>(simp only [lz0,lz1,lz2];rfl)
 intro K hK
 go_simp
 refine (kConcat_any _ _ 2 2 _ (rows2 w3 A2 A3 c2 c3 Y Z HX3.out HY3.out hc2 hc3) (by simp;omega) (by simp;omega) (by omega)).mono ?_
 rintro e w4 ⟨v4,rfl,ho4,hb4⟩
 have HB4:=Lib.hid (below_then (HB3.out.alloc HB3.out.size _) hb4 (by have:=HB3.out.size;simp;omega))
 have HO4:=Lib.hid (rowBase_le (base':=w.heap.size) ho4 (by have:=HB3.out.size;simp;omega))
 have hS5:=And.intro (below_cells hb4 hS4.1) (below_cells hb4 hS4.2)
 clear ho4 hb4
 go_wp2_with fail
 refine hK.out _ _ hS5 (fun _=>?_)
 clear hK K
 refine wpAnyH_take (i:=13) (oi:=?oiu13) (v:=?vu13) ?hiu13 (by kernel_rfl) (by kernel_rfl) (by kernel_rfl) ?hQu13 (Or.inl ⟨?hwu13,?hyu13⟩) (by assumption) ?restu13
 case hiu13=>(first | (simp only [lz0,lz1,lz2];rfl) | rfl)
 case hQu13=>exact fun _ _ _ h=>h
 case hwu13=>rfl
 case hyu13=>((intro w hSw;obtain ⟨hS1,hS2⟩:=hSw;go_simp);first | done | with_reducible rfl)
 try simp only [Act.put,lz3,lz4,lz5]
 refine wpAnyH_done (by kernel_rfl) ?_ _
 go_wp2
 go_ret
 exact ⟨v4,rfl,by simpa using HO4.out,HB4.out⟩
theorem gAround_any (w:World) (b:Nat) (A:Option Addr) (n c:Nat) (l:List Pst) (h:PostsSee w A n l) (hb:Blk w b 56 #[.slice A n c]) (hn:n≤4096) (hV:ValidP l) (f t:Nat) (hft:f < t) (ht:t≤n) (x:Nm) (hx:x.length≤1099511600000) (cap:Array Value)
  (hin:Calls Tryz.prog 134 cap w (RetB w x)):
  Calls Tryz.prog 85 (#[.int .i64 f,.int .i64 t,.func (.func 134) #[] cap]++#[at0 b]) w (RetB w (headB l f t x++x)):=by
 have hlen:=h.len
 have HP:=Lib.hid h
 have HBK:=Lib.hid hb
 have hgap:=fun w' (hw':PostsSee w' A n l)=>gGap_any w' A n c l hw' hn hV f t hft ht (hV.last_lt hft (by omega))
 have HIN:=Lib.hid hin
 have eg:∀ args w,(callFunc 134 args).run Tryz.prog w=.ok (.enter 134 args) w:=enters_of Tryz.func134 (by kernel_rfl) rfl
 obtain ⟨D,hD⟩:∃ D,D=((pAt l (t - 1)).1 - lastD l f - 1).toNat:=⟨_,rfl⟩
 have hdl:(putL D).length≤10:=putL_len D (by rw [hD];exact head_val hV (by omega) (by omega))
 have hpos:=putL_pos D
 have hH:headB l f t x=putL D++putL x.length:=by unfold headB;rw [← hD]
 rw [← hD] at hgap
 rw [hH]
 have HGAP:=Lib.hid hgap
 have hxl:(putL x.length).length≤10:=putL_len _ (by omega)
 obtain ⟨Y,hY⟩:∃ Y,Y=putL D:=⟨_,rfl⟩
 rw [← hY] at HGAP hdl hpos ⊢
 clear h hb hgap hV hin hD hH hY
 unfold at0
 simp only [List.append_toArray,List.cons_append,List.nil_append]
 go_enter Tryz.func85,Tryz.ntmps85
 go_wp2_with fail
 refine HIN.out.mono ?_
 rintro e w2 ⟨v2,rfl,ho2,hb2⟩
 obtain ⟨A2,c2,rfl,hc2⟩:=own_cap ho2
 have HX2:=Lib.hid (BytesIn.own ho2 (by unfold maxLen;omega))
 have HB2:=Lib.hid hb2
 have HP2:=Lib.hid (HP.out.below hb2)
 have b2:=(HBK.out.below hb2 HBK.out.lt).cell 0
 simp at b2
 clear ho2 hb2
 go_wp2_with fail
 refine (HGAP.out w2 HP2.out).mono ?_
 rintro e w3 ⟨v3,rfl,ho3,hb3⟩
 obtain ⟨A3,c3,rfl,hc3⟩:=own_cap ho3
 have HX3:=Lib.hid (HX2.out.below hb3)
 have HY3:=Lib.hid (BytesIn.own ho3 (by unfold maxLen;omega))
 have HB3:=Lib.hid (below_then HB2.out hb3 HB2.out.size)
 have hw5:IntKind.u64.wrap (x.length:Int)=(x.length:Int):=IntWalk.u64_in _ (by omega)
 clear ho3 hb3 b2
 go_wp2_with fail
 refine (lPut_any w3 x.length (by omega)).mono ?_
 rintro e w4 ⟨v4,rfl,ho4,hb4⟩
 obtain ⟨A4,c4,rfl,hc4⟩:=own_cap ho4
 have HX4:=Lib.hid (HX3.out.below hb4)
 have HY4:=Lib.hid (HY3.out.below hb4)
 have HZ4:=Lib.hid (BytesIn.own ho4 (by unfold maxLen;omega))
 have HB4:=Lib.hid (below_then HB3.out hb4 HB3.out.size)
 clear ho4 hb4
 go_wp2_with fail
 refine (kConcat_any _ _ 3 3 _ (rows3 w4 A3 A4 A2 c3 c4 c2 Y (putL x.length) x HY4.out HZ4.out HX4.out hc3 hc4 hc2) (by simp;omega) (by simp;omega) (by omega)).mono ?_
 rintro e w5 ⟨v5,rfl,ho5,hb5⟩
 have HB5:=Lib.hid (below_then (HB4.out.alloc HB4.out.size _) hb5 (by have:=HB4.out.size;simp;omega))
 have HO5:=Lib.hid (rowBase_le (base':=w.heap.size) ho5 (by have:=HB4.out.size;simp;omega))
 clear ho5 hb5
 go_wp2
 go_ret
 exact ⟨v5,rfl,by simpa using HO5.out,HB5.out⟩
theorem gLevel1 (wB:World) (b:Nat) (A:Option Addr) (n c:Nat) (l:List Pst) (h:PostsSee wB A n l) (hb:Blk wB b 56 #[.slice A n c]) (hn:n≤4096) (hV:ValidP l) (ad:Addr) (hcell:wB.cell? ad=some (.int .i64 (4:Nat)))
  (f t:Nat) (hf:f % 16=0) (hft:f < t) (ht:t=min n (f+16)) (w:World) (hw:Below wB.heap.size wB w):
  Calls Tryz.prog 86 #[.int .i64 f,.int .i64 t,.func (.func 82) #[] #[at0 b],.func (.func 85) #[] #[at0 b],.slice (some ad) 1 1] w (RetB w (cat (linB l) f (t - f))):=by
 have hlen:=h.len
 have hlin:=fun k (hk:f+k≤n)=>linBs_len hV (i:=f) (k:=k) (by omega)
 refine gPartsBS wB 82 85 #[at0 b] #[at0 b] (enters_of Tryz.func85 (by kernel_rfl) rfl) ad 1 1 4 (by omega) (by omega) (by omega) hcell f t (by omega) (by omega) (fun a=>f≤a∧a % 4=0) (fun a=>cat (linB l) f (a - f))
  (fun a=>headB l a (min (a+4) t) (cat (unitB l) a (min (a+4) t - a))++cat (unitB l) a (min (a+4) t - a)) ⟨Nat.le_refl _,by omega⟩ (fun a ha _=>⟨by omega,by omega⟩) (by simp [cat]) (fun a ha hat=>?_) (fun a hat=>?_) ?_ w hw
 ·exact (block_next (l:=l) ha.1 ha.2 (by omega) (by omega)).symm
 ·show (cat (linB l) f (a - f)).length≤_
  have h1:=hlin (t - f) (by omega)
  rcases Nat.lt_or_ge f a with h2 | h2
  ·have:=hlin (a - f) (by omega)
   have:90020 * (a - f)≤90020 * 4096:=Nat.mul_le_mul_left _ (by omega)
   omega
  ·rw [show a - f=0 by omega]
   simp [cat]
 ·intro w1 a ga ge g7 g8 g9 hw1 ha hat ba be b7 b8 b9
  obtain ⟨E,hE⟩:∃ E,E=min (a+4) t:=⟨_,rfl⟩
  rw [← hE] at be ⊢
  have hul:=units_len hV (i:=a) (k:=E - a) (by omega)
  refine gAround_any w1 b A n c l (h.below hw1) (hb.below hw1 hb.lt) hn hV a E (by omega) (by omega) _ (by omega) _ ?_
  refine gInB_any ba be b7 b8 b9 (by omega) ?_
  refine Calls.mono (gPartsB0 wB 82 85 #[at0 b] #[at0 b] (enters_of Tryz.func82 (by kernel_rfl) rfl) _ _ a E (by omega) (by omega) (unitB l) (fun k hk=>?_) (fun w2 i hw2 hi1 hi2=>?_) w1.drew hw1.drew) fun _ _ h=>h.drew
  ·have:=units_len hV (i:=a) (k:=k) (by omega)
   have:90000 * k≤90000 * 4096:=Nat.mul_le_mul_left _ (by omega)
   omega
  ·exact gOne_any w2 b A n c l (h.below hw2) (hb.below hw2 hb.lt) hn hV i (by omega)
theorem gLevel2 (wB:World) (b:Nat) (A:Option Addr) (n c:Nat) (l:List Pst) (h:PostsSee wB A n l) (hb:Blk wB b 56 #[.slice A n c]) (hn:n≤4096) (hV:ValidP l) (gs:Nat) (hs:Blk wB gs 3 #[.int .i64 16,.int .i64 4]) (w:World) (hw:Below wB.heap.size wB w):
  Calls Tryz.prog 86 #[.int .i64 (0:Nat),.int .i64 n,.func (.func 82) #[] #[at0 b],.func (.func 85) #[] #[at0 b],.slice (some ⟨gs,0,none⟩) 2 2] w (RetB w (cat (lin l) 0 n)):=by
 have hlen:=h.len
 have hlin:=fun k (hk:k≤n)=>lins_len hV (i:=0) (k:=k) (by omega)
 refine gPartsBS wB 82 85 #[at0 b] #[at0 b] (enters_of Tryz.func85 (by kernel_rfl) rfl) ⟨gs,0,none⟩ 2 2 16 (by omega) (by omega) (by omega) (hs.cell 0) 0 n (by omega) (by omega) (fun a=>a % 16=0) (fun a=>cat (lin l) 0 a)
  (fun a=>headB l a (min (a+16) n) (cat (linB l) a (min (a+16) n - a))++cat (linB l) a (min (a+16) n - a)) (by omega) (fun a ha _=>by omega) (by simp [cat]) (fun a ha hat=>?_) (fun a hat=>?_) ?_ w hw
 ·exact (group_next (l:=l) ha (by omega) (by omega)).symm
 ·have:=hlin a hat
  have:90040 * a≤90040 * 4096:=Nat.mul_le_mul_left _ (by omega)
  show (cat (lin l) 0 a).length≤_
  omega
 ·intro w1 a ga ge g7 g8 g9 hw1 ha hat ba be b7 b8 b9
  obtain ⟨E,hE⟩:∃ E,E=min (a+16) n:=⟨_,rfl⟩
  rw [← hE] at be ⊢
  have hul:=linBs_len hV (i:=a) (k:=E - a) (by omega)
  refine gAround_any w1 b A n c l (h.below hw1) (hb.below hw1 hb.lt) hn hV a E (by omega) (by omega) _ (by omega) _ ?_
  refine gInB_any ba be b7 b8 b9 (by omega) ?_
  rw [cutAddr_one _ _ (by omega),show (⟨gs,0,none⟩:Addr).add 1=⟨gs,1,none⟩ by simp [Addr.add]]
  exact (gLevel1 wB b A n c l h hb hn hV _ (hs.cell 1) a E ha (by omega) (by omega) w1.drew hw1.drew).mono fun _ _ h=>h.drew
theorem gPut_any (w:World) (A:Option Addr) (n c:Nat) (l:List Pst) (h:PostsSee w A n l) (hn:n≤1000000):
  Calls Tryz.prog 36 #[.slice A n c] w (PutPOut w l):=by
 have hlen:=h.len
 have hfit:=fit_of h
 have HP:=Lib.hid h
 have b1:=Blk.new w 56 #[.slice A n c]
 have hb1:Below w.heap.size w (w.alloc (.cells #[.slice A n c] 56)):=(Below.refl _ w).alloc (Nat.le_refl _) _
 obtain ⟨W1,hW1⟩:∃ W1,W1=w.alloc (.cells #[.slice A n c] 56):=⟨_,rfl⟩
 rw [← hW1] at b1 hb1
 have HW1:=Lib.hid hW1
 have HP1:=Lib.hid (h.below hb1)
 have HB1:=Lib.hid hb1
 have HBK1:=Lib.hid b1
 have t0:=b1.cell 0
 simp at t0
 have HTM:=Lib.hid (gTooMany_any W1 A n c l HP1.out hn)
 obtain ⟨C,hC⟩:∃ C,C=checkP l:=⟨_,rfl⟩
 have HC:=Lib.hid hC
 have hck:C=2∨(n≤4096∧(∀ x∈l,x.2.length≤4096)∧((okUp l n=true∧C=0)∨(okUp l n=false∧C=1))):=by
  rw [hC]
  unfold checkP
  by_cases h1:4096 < l.length
  ·exact .inl (if_pos h1)
  ·rw [if_neg h1]
   cases h2:manyUp l l.length with
   | true=>exact .inl (if_pos rfl)
   | false=>
    refine .inr ⟨by omega,fun x hx=>?_,?_⟩
    ·obtain ⟨i,hi,rfl⟩:=pAt_of hx
     exact manyUp_iff.1 h2 i hi
    ·rw [hlen]
     cases h3:okUp l n with
     | true=>exact .inl ⟨rfl,by simp⟩
     | false=>exact .inr ⟨rfl,by simp⟩
 rw [← hC] at HTM
 unfold PutPOut
 rw [← hC]
 clear h hb1 b1 hW1
 go_enter Tryz.func36,Tryz.ntmps36
 go_wp2_with fail
 rw [← HW1.out]
 refine HTM.out.mono ?_
 rintro e w2 ⟨rfl,hb2⟩
 have HB2:=Lib.hid (below_then HB1.out hb2 HB1.out.size)
 have HP2:=Lib.hid (HP1.out.below hb2)
 have HBK2:=Lib.hid (HBK1.out.below hb2 HBK1.out.lt)
 have t2:=HBK2.out.cell 0
 simp at t2
 clear hb2 t0
 rcases hck with hc2 | ⟨hn4,hsp,hck⟩
 ·have hE:putE l=[]:=by unfold putE;rw [if_neg (by rw [← HC.out,hc2];decide)]
  subst hc2
  rw [decide_eq_true rfl]
  have HE:=Lib.hid hE
  clear hC hE hfit
  go_wp2
  go_ret2
  exact ⟨_,rfl,by rw [HE.out];exact ⟨rfl,.inl ⟨rfl,rfl⟩⟩,HB2.out⟩
 ·have hC2:C≠2:=by rcases hck with ⟨_,h1⟩ | ⟨_,h1⟩ <;> rw [h1] <;> decide
  rw [decide_eq_false hC2]
  have HVA:=Lib.hid (gValid_any w2 A n c l HP2.out hn4 hsp)
  clear hC
  go_wp2_with fail
  refine HVA.out.mono ?_
  rintro e w3 ⟨rfl,hb3⟩
  have HB3:=Lib.hid (below_then HB2.out hb3 HB2.out.size)
  have HP3:=Lib.hid (HP2.out.below hb3)
  have HBK3:=Lib.hid (HBK2.out.below hb3 HBK2.out.lt)
  have t3:=HBK3.out.cell 0
  simp at t3
  clear hb3 t2
  rcases hck with ⟨hok,hc⟩ | ⟨hok,hc⟩
  ·subst hc
   have hV:=(check_ok hfit).1 HC.out.symm
   have hE:putE l=putL n++cat (lin l) 0 n:=by unfold putE;rw [if_pos HC.out.symm,putP,hlen]
   rw [hok]
   have HE:=Lib.hid hE
   have HV:=Lib.hid hV
   have hkl:(cat (lin l) 0 n).length≤368803840:=by
    have h1:=lins_len hV (i:=0) (k:=n) (by omega)
    have:90040 * n≤90040 * 4096:=Nat.mul_le_mul_left _ hn4
    omega
   have bs:=Blk.new w3 3 #[.int .i64 16,.int .i64 4]
   have hbs:Below w3.heap.size w3 (w3.alloc (.cells #[.int .i64 16,.int .i64 4] 3)):=(Below.refl _ w3).alloc (Nat.le_refl _) _
   have hcall:=gLevel2 (w3.alloc (.cells #[.int .i64 16,.int .i64 4] 3)) w.heap.size A n c l (HP3.out.below hbs) (HBK3.out.below hbs HBK3.out.lt) hn4 hV w3.heap.size bs _ (Below.refl _ _)
   unfold at0 at hcall
   have HCALL:=Lib.hid hcall
   have HB3s:=Lib.hid (below_then HB3.out hbs HB3.out.size)
   have HBKs:=Lib.hid (HBK3.out.below hbs HBK3.out.lt)
   have hnl:=putL_pos n
   have hnl2:=putL_len n (by omega)
   have hw5:IntKind.u64.wrap (n:Int)=(n:Int):=IntWalk.u64_in _ (by omega)
   obtain ⟨Z,hZ⟩:∃ Z,Z=cat (lin l) 0 n:=⟨_,rfl⟩
   rw [← hZ] at hkl HE HCALL
   clear hok hE hV hfit hsp bs hbs hcall hZ HTM
   go_wp2_with fail
   refine HCALL.out.mono ?_
   rintro e w4 ⟨v4,rfl,ho4,hb4⟩
   obtain ⟨A4,c4,rfl,hc4⟩:=own_cap ho4
   have HX4:=Lib.hid (BytesIn.own ho4 (by unfold maxLen;omega))
   have HB4:=Lib.hid (below_then HB3s.out hb4 HB3s.out.size)
   have t4:=(HBKs.out.below hb4 HBKs.out.lt).cell 0
   simp at t4
   clear ho4 hb4 t3
   go_wp2_with fail
   refine (lPut_any w4 n (by omega)).mono ?_
   rintro e w5 ⟨v5,rfl,ho5,hb5⟩
   obtain ⟨A5,c5,rfl,hc5⟩:=own_cap ho5
   have HX5:=Lib.hid (HX4.out.below hb5)
   have HY5:=Lib.hid (BytesIn.own ho5 (by unfold maxLen;omega))
   have HB5:=Lib.hid (below_then HB4.out hb5 HB4.out.size)
   clear ho5 hb5 t4
   go_wp2_with fail
   refine (kConcat_any _ _ 2 2 _ (rows2 w5 A5 A4 c5 c4 (putL n) Z HY5.out HX5.out hc5 hc4) (by simp;omega) (by simp;omega) (by omega)).mono ?_
   rintro e w6 ⟨v6,rfl,ho6,hb6⟩
   have HB6:=Lib.hid (below_then (HB5.out.alloc HB5.out.size _) hb6 (by have:=HB5.out.size;simp;omega))
   have HO6:=Lib.hid (rowBase_le (base':=w.heap.size) ho6 (by have:=HB5.out.size;simp;omega))
   clear ho6 hb6
   go_wp2
   go_ret2
   exact ⟨v6,rfl,by rw [HE.out];simpa using HO6.out,HB6.out⟩
  ·subst hc
   have hE:putE l=[]:=by unfold putE;rw [if_neg (by rw [← HC.out];decide)]
   rw [hok]
   have HE:=Lib.hid hE
   clear hok hE hfit hsp
   go_wp2
   go_ret2
   exact ⟨_,rfl,by rw [HE.out];exact ⟨rfl,.inl ⟨rfl,rfl⟩⟩,HB3.out⟩
end Go.Proofs.YthcjikpabpgpfaaGreat
