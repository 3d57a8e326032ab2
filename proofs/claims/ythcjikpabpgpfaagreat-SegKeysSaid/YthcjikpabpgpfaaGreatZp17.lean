import Derived.Test.YthcjikpabpgpfaaGreatZp0
import Derived.Test.YthcjikpabpgpfaaGreatZp14
import Derived.Test.YthcjikpabpgpfaaGreatZp15
import Derived.OwnWalk
import Derived.Test.YthcjikpabpgpfaaGreatZp8
import Derived.Deep.RegionHeld3
import Derived.Deep.DeepCutAuto
import Derived.Test.YthcjikpabpgpfaaGreatZp4
import Derived.Test.YthcjikpabpgpfaaGreatZp13
import Derived.Deep.QuietTactic
import Derived.BigQuiet
set_option linter.unusedSimpArgs false
set_option maxHeartbeats 16000000
set_option maxRecDepth 100000
namespace Go.Proofs.YthcjikpabpgpfaaGreat
open Go.RowKit Go.Maps Go.WideMaps
def M0 (w:World) (F:Nat→Prop) (b:Nat) (L:List MDoc):Prop:=
 F b∧(∀ i,F i→i < w.heap.size)∧∃ mb,Blk w b 156 #[.map (some mb),.int .i64 (L.length:Int),.int .i64 (lastM L+1)]∧PMap w mb (totT L) (plOf L) fun i=>F i∧i≠b
theorem M0.keep {w w':World} {F:Nat→Prop} {b:Nat} {L:List MDoc} (h:M0 w F b L) (hk:∀ i,F i→w'.heap[i]?=w.heap[i]?) (hs:w.heap.size≤w'.heap.size):M0 w' F b L:=by
 obtain ⟨h1,h2,mb,h3,h4⟩:=h
 exact ⟨h1,fun i hi=>Nat.lt_of_lt_of_le (h2 i hi) hs,mb,(hk b h1).trans h3,h4.keep fun i hi=>hk i hi.1⟩
theorem m0New_any (w:World):Calls Tryz.prog 74 #[] w fun e w'=>∃ b F,e=.returned (.pointer (some ⟨b,0,none⟩))∧Below w.heap.size w w'∧M0 w' F b []∧∀ i,F i→w.heap.size≤i:=by
 have hmm:=@run_makeMap Tryz.prog
 go_enter Tryz.func74,Tryz.ntmps74
 go_wp2
 clear hmm
 go_ret
 refine ⟨w.heap.size+1,fun i=>i=w.heap.size∨i=w.heap.size+1,rfl,((Below.refl _ _).alloc (Nat.le_refl _) _).alloc (by simp) _,⟨.inr rfl,fun i hi=>by simp;omega,w.heap.size,?_,?_⟩,fun i hi=>by omega⟩
 ·have h1:=Blk.new (w.alloc (.map #[] 0)) 156 #[.map (some w.heap.size),.int .i64 0,.int .i64 0]
  rw [World.size_alloc] at h1
  exact h1
 ·have h1:=PMap.made w
  refine ((h1.keep (w':=(w.alloc (.map #[] 0)).alloc (.cells #[.map (some w.heap.size),.int .i64 0,.int .i64 0] 156)) fun i hi=>?_).lets (fun t=>rfl) (fun i hi=>⟨.inl hi,by omega⟩)).more (by simp [totT])
  exact Below.heap_alloc _ _ i (by subst hi;simp)
def mlastS (x:MDoc) (i:Nat):Int:=if i=0 then -1 else x.S.getD (i - 1) 0
theorem badAt_test (x:MDoc) (i:Nat) (hl:badTo x i=false):badAt x i=(decide (x.T.getD i 0 < 0)||decide (x.S.getD i 0≤mlastS x i)):=by
 have h1:0 < i→0≤x.S.getD (i - 1) 0:=fun h=>(badAt_iff.1 (badTo_iff.1 hl (i - 1) (by omega))).2.1
 unfold badAt mlastS
 obtain ⟨a,ha⟩:∃ a,a=x.T.getD i 0:=⟨_,rfl⟩
 obtain ⟨b,hb⟩:∃ b,b=x.S.getD i 0:=⟨_,rfl⟩
 obtain ⟨c,hc⟩:∃ c,c=x.S.getD (i - 1) 0:=⟨_,rfl⟩
 rw [← ha,← hb,← hc]
 rw [← hc] at h1
 clear ha hb hc hl
 rw [Bool.eq_iff_iff]
 simp only [Bool.or_eq_true,Bool.and_eq_true,decide_eq_true_eq]
 split <;> omega
theorem m0Spots_any {w:World} {A B:Option Addr} {n m c d:Nat} {x:MDoc} (hT:IntsIn w A n x.T) (hS:IntsIn w B m x.S):Calls Tryz.prog 126 #[.slice A n c,.slice B m d] w fun e w'=>e=.returned (.bool (decide (n=m∧badTo x n=false)))∧∃ q,w'=w.drewN q:=by
 have HT:=Lib.hid hT
 have HS:=Lib.hid hS
 have hn63:=hT.1
 have hm63:=hS.1
 unfold maxLen at hn63 hm63
 clear hT hS
 go_enter Tryz.func126,Tryz.ntmps126
 by_cases hnm:n=m
 ·subst hnm
  have e1:((n:Int) != (n:Int))=false:=by simp
  go_wp2
  go_loopw [5,15] (fun lv iv wr=>∃ i q:Nat,i≤n∧lv=.int .i64 (mlastS x i)∧iv=.int .i64 i∧wr=w.drewN q∧badTo x i=false) (fun _ iv _=>n - (Go.RowKit.intOf iv).toNat)
  case atStart=>exact ⟨0,0,by omega,rfl,rfl,rfl,rfl⟩
  case round=>
   obtain ⟨i,q,hi,rfl,rfl,hwr,hbad⟩:=hrel
   have HWR:=Lib.hid hwr
   have HBAD:=Lib.hid hbad
   rcases Nat.lt_or_ge i n with hlt | hge
   ·have d1:decide ((i:Int) < (n:Int))=true:=by simpa using hlt
    have p0:(0:Int)≤(i:Int):=by omega
    have p1:(i:Int) < (n:Int):=by omega
    have hw5:IntKind.i64.wrap ((i:Int)+1)=(i:Int)+1:=IntWalk.i64_in _ (by omega)
    obtain ⟨pa,y,rfl,hy,cy,-,-⟩:=HT.out.at i hlt
    obtain ⟨pb,z,rfl,hz,cz,-,-⟩:=HS.out.at i hlt
    have HB1:Hid (badTo x (i+1)=(decide (y < 0)||decide (z≤mlastS x i))):=Lib.hid (by
     have h1:x.T.getD i 0=y:=by rw [List.getD_eq_getElem?_getD,hy];rfl
     have h2:x.S.getD i 0=z:=by rw [List.getD_eq_getElem?_getD,hz];rfl
     rw [badTo,hbad,badAt_test x i hbad,h1,h2]
     rfl)
    have HL:Hid (mlastS x (i+1)=z):=Lib.hid (by
     unfold mlastS
     rw [if_neg (by omega),Nat.add_sub_cancel,List.getD_eq_getElem?_getD,hz]
     rfl)
    obtain ⟨l,hl⟩:∃ l,l=mlastS x i:=⟨_,rfl⟩
    rw [← hl] at HB1 ⊢
    have cy':wr.cell? (pa.add i)=some (.int .i64 y):=by rw [hwr];exact cy
    have cz':wr.cell? (pb.add i)=some (.int .i64 z):=by rw [hwr];exact cz
    clear hy hz hwr hbad cy cz hl
    by_cases h1:y < 0
    ·have d2:decide (y < 0)=true:=by simpa using h1
     have HE:Hid (badTo x n=true):=Lib.hid (by
      have h3:badTo x (i+1)=true:=by rw [HB1.out,d2];rfl
      cases h4:badTo x n with
      | true=>rfl
      | false=>rw [badTo_iff.2 fun j hj=>badTo_iff.1 h4 j (by omega)] at h3;cases h3)
     go_wp2
     go_ret
     exact ⟨by simp [HE.out],q,HWR.out⟩
    ·have d2:decide (y < 0)=false:=by simpa using h1
     by_cases h2:z≤l
     ·have d3:decide (z≤l)=true:=by simpa using h2
      have HE:Hid (badTo x n=true):=Lib.hid (by
       have h3:badTo x (i+1)=true:=by rw [HB1.out,d2,d3];rfl
       cases h4:badTo x n with
       | true=>rfl
       | false=>rw [badTo_iff.2 fun j hj=>badTo_iff.1 h4 j (by omega)] at h3;cases h3)
      go_wp2
      go_ret
      exact ⟨by simp [HE.out],q,HWR.out⟩
     ·have d3:decide (z≤l)=false:=by simpa using h2
      have HE:Hid (badTo x (i+1)=false):=Lib.hid (by rw [HB1.out,d2,d3];rfl)
      go_wp2
      go_roundw
      case rel=>exact ⟨i+1,q,by omega,by rw [HL.out],by go_num,HWR.out,HE.out⟩
      case measure=>simp [Go.RowKit.intOf];omega
   ·obtain rfl:i=n:=by omega
    have hlz:¬ ((i:Int) < (i:Int)):=by omega
    clear hwr hbad
    go_wp2
    go_ret
    exact ⟨by simp [HBAD.out],q,HWR.out⟩
 ·have e1:((n:Int) != (m:Int))=true:=by simp;omega
  go_wp2
  go_ret
  exact ⟨by simp [hnm],0,rfl⟩
theorem placeInfo:(Tryz.prog.info? 165).map (fun i=>(i.zero,i.size,i.bytes))=some (some (.agg #[.int .i64 0,.int .i64 0,.int .i64 0]),3,24):=by kernel_rfl
def plAdd (L:List MDoc) (x:MDoc) (k:Nat):Int→List Pl:=fun t=>plOf L t++plUp x t k
theorem plAdd_next {L:List MDoc} {x:MDoc} {k:Nat} {y z:Int} (hy:x.T.getD k 0=y) (hz:x.S.getD k 0=z) (t:Int):plAdd L x (k+1) t=plPut (plAdd L x k) y (x.doc,(k:Int),z) t:=by
 unfold plAdd plPut
 rw [plUp_next,hy,hz]
 by_cases h:t=y
 ·rw [if_pos h,if_pos h.symm,List.append_assoc]
 ·rw [if_neg h,if_neg (fun e=>h e.symm)]
theorem plAdd_len (L:List MDoc) (x:MDoc) (k:Nat) (t:Int):(plAdd L x k t).length≤totT L+k:=by
 unfold plAdd
 rw [List.length_append]
 have:=plOf_len L t
 have:=plUp_len x t k
 omega
theorem m0Add_any {w:World} {F:Nat→Prop} {b:Nat} {L:List MDoc} (h:M0 w F b L) (hW:MWF L) (hT:totT L≤20000) (x:MDoc) (A C:Option Addr) (n m c cc:Nat) (hTI:IntsIn w A n x.T) (hSI:IntsIn w C m x.S)
  (hAF:∀ ad,A=some ad→0 < n→¬ F ad.block) (hCF:∀ ad,C=some ad→0 < m→¬ F ad.block) (hd:fits64 x.doc):Calls Tryz.prog 75 #[.pointer (some ⟨b,0,none⟩),.int .i64 x.doc,.slice A n c,.slice C m cc] w (AddOut M0 w F b L x):=by
 obtain ⟨i0,hi,hz0,hz1,hz2⟩:=info_parts placeInfo
 have HM:=Lib.hid h
 obtain ⟨hFb,hFlt,mb,hB,hP⟩:=h
 have hlow:=lastM_low hW
 have hfew:=hW.few
 have HERR:=Lib.hid (mErr_is hW x)
 have HSP:=Lib.hid (m0Spots_any (c:=c) (d:=cc) hTI hSI)
 have htl:=hTI.len
 have hsl:=hSI.len
 rw [htl,hsl] at HERR
 have HTL:=Lib.hid htl
 have HNO:Hid (∀ e:Int,mErr L x=e→e≠0→∀ q,AddOut M0 w F b L x (.returned (.int .i64 e)) (w.drewN q)):=Lib.hid (fun e he h0 q=>by
  refine ⟨by rw [he],F,?_,⟨rfl,rfl,rfl,Nat.le_refl _,fun _ _ _=>rfl⟩,fun i hi=>.inl hi⟩
  have h1:mAdd L x=L:=by unfold mAdd;rw [if_neg (by rw [he];exact h0)]
  rw [h1]
  exact HM.out.keep (fun _ _=>rfl) (Nat.le_refl _))
 have HTK:Hid (∀ wr,Kept F w wr→IntsIn wr A n x.T∧IntsIn wr C m x.S):=Lib.hid (fun wr hk=>
  ⟨⟨hTI.1,hTI.2.1.keep fun ad e h0=>hk.block _ (hTI.2.2.2 ad e h0) (hAF ad e h0),hTI.2.2.1,fun ad e h0=>Nat.lt_of_lt_of_le (hTI.2.2.2 ad e h0) hk.size⟩,
   ⟨hSI.1,hSI.2.1.keep fun ad e h0=>hk.block _ (hSI.2.2.2 ad e h0) (hCF ad e h0),hSI.2.2.1,fun ad e h0=>Nat.lt_of_lt_of_le (hSI.2.2.2 ad e h0) hk.size⟩⟩)
 have hn63:=hTI.1
 have hm63:=hSI.1
 unfold maxLen at hn63 hm63
 have hdl:=hd.1
 have hdh:=hd.2
 have c1:=hB.cell 1
 have c2:=hB.cell 2
 simp only [lz0,lz1,lz2] at c1 c2
 obtain ⟨doc,hdoc⟩:∃ d,d=x.doc:=⟨_,rfl⟩
 obtain ⟨N,hN⟩:∃ N,N=L.length:=⟨_,rfl⟩
 obtain ⟨nx,hnx⟩:∃ d,d=lastM L+1:=⟨_,rfl⟩
 have hbl:=hB.lt
 have HB0:=Lib.hid hB
 have HP0:=Lib.hid hP
 have HFLT:=Lib.hid hFlt
 have HFB:=Lib.hid hFb
 have HDOC:=Lib.hid hdoc
 have HN:=Lib.hid hN
 have HNX:=Lib.hid hnx
 have HW:=Lib.hid hW
 rw [← hdoc] at hdl hdh HERR ⊢
 rw [← hN] at hfew HERR c1 HB0
 rw [← hnx] at HERR c2 HB0
 have hlow2:0≤nx∧nx≤4294967297:=by omega
 clear hlow
 clear hTI hSI hAF hCF hd hP hFlt hFb hdoc hN hnx htl hsl hB hW
 go_enter Tryz.func75,Tryz.ntmps75
 have cross:∀ q,(w.drewN q).heap=w.heap:=fun _=>rfl
 clear cross
 by_cases hN4:N=4096
 ·have e1:((N:Int)==4096)=true:=by simp;omega
  go_wp2
  go_ret
  exact HNO.out 2 (by rw [HERR.out,if_pos (.inl hN4)]) (by omega) 0
 ·have e1:((N:Int)==4096)=false:=by simp;omega
  by_cases hn4:4096 < n
  ·have e2:decide ((4096:Int) < (n:Int))=true:=by simp;omega
   go_wp2
   go_ret
   exact HNO.out 2 (by rw [HERR.out,if_pos (.inr hn4)]) (by omega) 0
  ·have e2:decide ((4096:Int) < (n:Int))=false:=by simp;omega
   have HE2:=Lib.hid (show ¬ (N=4096∨4096 < n) by omega)
   by_cases hdn:doc < nx
   ·have e3:decide (doc < nx)=true:=by simpa using hdn
    go_wp2
    go_ret
    exact HNO.out 1 (by rw [HERR.out,if_neg HE2.out,if_pos (.inl hdn)]) (by omega) 0
   ·have e3:decide (doc < nx)=false:=by simpa using hdn
    by_cases hdg:4294967296 < doc
    ·have e4:decide ((4294967296:Int) < doc)=true:=by simpa using hdg
     go_wp2
     go_ret
     exact HNO.out 1 (by rw [HERR.out,if_neg HE2.out,if_pos (.inr (.inl hdg))]) (by omega) 0
    ·have e4:decide ((4294967296:Int) < doc)=false:=by simpa using hdg
     obtain ⟨ok,hok⟩:∃ ok:Bool,ok=decide (n=m∧badTo x n=false):=⟨_,rfl⟩
     rw [← hok] at HSP
     have HOK:=Lib.hid hok.symm
     clear hok
     cases ok with
     | false=>
      go_wp2_with (go_at_call 126;refine HSP.out.mono ?_;rintro e w1 ⟨rfl,q,rfl⟩)
      go_ret
      refine HNO.out 1 ?_ (by omega) q
      have h1:=of_decide_eq_false HOK.out
      rw [HERR.out,if_neg HE2.out,if_pos]
      by_cases h2:n=m
      ·refine .inr (.inr (.inr ?_))
       cases h3:badTo x n with
       | true=>rfl
       | false=>exact absurd ⟨h2,h3⟩ h1
      ·exact .inr (.inr (.inl h2))
     | true=>
      obtain ⟨hnm,hbad⟩:=of_decide_eq_true HOK.out
      subst hnm
      have HZ:Hid (mErr L x=0):=Lib.hid (by
       rw [HERR.out,if_neg HE2.out,if_neg]
       rintro (h | h | h | h)
       ·exact hdn h
       ·exact hdg h
       ·exact h rfl
       ·rw [hbad] at h;cases h)
      have HSX:Hid (∀ k,k < n→0≤x.T.getD k 0):=Lib.hid (fun k hk=>(badAt_iff.1 (badTo_iff.1 hbad k hk)).1)
      clear HERR HOK hbad
      go_wp2_with (go_at_call 126;refine HSP.out.mono ?_;rintro e w1 ⟨rfl,q,rfl⟩)
      clear HSP
      go_loopw [40] (fun iv wr=>∃ (i:Nat) (G:Nat→Prop),i≤n∧iv=.int .i64 i∧PMap wr mb (totT L+i) (plAdd L x i) G∧Kept F w wr∧Blk wr b 156 #[.map (some mb),.int .i64 (N:Int),.int .i64 nx]∧∀ j,G j→((F j∧j≠b)∨w.heap.size≤j)∧j < wr.heap.size) (fun iv _=>n - (Go.RowKit.intOf iv).toNat)
      case atStart=>
       refine ⟨0,fun i=>F i∧i≠b,by omega,rfl,((HP0.out.keep (w':=w.drewN q) (fun _ _=>rfl)).lets (g:=plAdd L x 0) (fun t=>by unfold plAdd plUp;simp [spotUp]) (fun _ h=>h)).more (by omega),⟨rfl,rfl,rfl,Nat.le_refl _,fun _ _ _=>rfl⟩,HB0.out,fun j hj=>⟨.inl hj,HFLT.out j hj.1⟩⟩
      case round=>
       obtain ⟨i,G,hi1,rfl,hPm,hKw,hBw,hGw⟩:=hrel
       have HPM:=Lib.hid hPm
       have HKW:=Lib.hid hKw
       have HBW:=Lib.hid hBw
       have HGW:=Lib.hid hGw
       clear c1 c2
       have k1:=hBw.cell 1
       have fz1:=hBw.frozen 1
       simp only [lz0,lz1,lz2] at k1
       obtain ⟨hITw,hISw⟩:=HTK.out wr hKw
       have HIT:=Lib.hid hITw
       have HIS:=Lib.hid hISw
       clear hPm hKw hBw hGw hITw hISw
       rcases Nat.lt_or_ge i n with hlt | hge
       ·have d1:decide ((i:Int) < (n:Int))=true:=by simpa using hlt
        have p0:(0:Int)≤(i:Int):=by omega
        have p1:(i:Int) < (n:Int):=by omega
        have hw5:IntKind.i64.wrap ((i:Int)+1)=(i:Int)+1:=IntWalk.i64_in _ (by omega)
        obtain ⟨pa,y,rfl,hy,cy,hyl,hyh⟩:=HIT.out.at i hlt
        obtain ⟨pc,z,rfl,hz,cz,hzl,hzh⟩:=HIS.out.at i hlt
        have HY:=Lib.hid (show x.T.getD i 0=y from by rw [List.getD_eq_getElem?_getD,hy];rfl)
        have HZZ:=Lib.hid (show x.S.getD i 0=z from by rw [List.getD_eq_getElem?_getD,hz];rfl)
        have HYF:Hid (fits64 y):=Lib.hid ⟨hyl,hyh⟩
        obtain ⟨f,hf⟩:∃ f,f=plAdd L x i:=⟨_,rfl⟩
        have HNXT:Hid (∀ t,plAdd L x (i+1) t=plPut f y (doc,(i:Int),z) t):=Lib.hid (fun t=>by rw [hf,HDOC.out];exact plAdd_next HY.out HZZ.out t)
        have hfl:(f y).length≤24096:=by have:=plAdd_len L x i y;rw [← hf] at this;omega
        rw [← hf] at HPM
        have hroom:totT L+i < maxLen:=by unfold maxLen;omega
        have HROOM:=Lib.hid hroom
        obtain ⟨wo,hwo⟩:∃ z,z=wr:=⟨_,rfl⟩
        subst hwo
        obtain ⟨sb,hsb⟩:∃ z,z=wo.heap.size:=⟨_,rfl⟩
        obtain ⟨wi0,hwi0⟩:∃ s,s=wo.alloc (.cells #[.int .i64 (i:Int),.int .i64 z] 64):=⟨_,rfl⟩
        have hb0:Below wo.heap.size wo wi0:=by rw [hwi0];exact (Below.refl _ wo).alloc (Nat.le_refl _) _
        have HSB:=Lib.hid hsb
        have hbs:b < sb:=by rw [hsb];exact HBW.out.lt
        have HMB:Hid (G mb∧mb≠b∧mb≠sb∧(F mb∨w.heap.size≤mb)):=Lib.hid (by
         have h1:=HGW.out mb HPM.out.inG
         refine ⟨HPM.out.inG,by rcases h1.1 with h | h;exact h.2;omega,by omega,h1.1.imp (fun h=>h.1) id⟩)
        have HGR:Hid (∀ g,G g→g≠b∧g≠sb∧(F g∨w.heap.size≤g)):=Lib.hid (fun g hg=>by
         have h1:=HGW.out g hg
         refine ⟨by rcases h1.1 with h | h;exact h.2;omega,by omega,h1.1.imp (fun h=>h.1) id⟩)
        have HP1:=Lib.hid (HPM.out.keep (w':=wi0) fun j hj=>hb0.block j (HGW.out j hj).2)
        have HK1:=Lib.hid (show Kept F w wi0 from by rw [hwi0];exact HKW.out.alloc _)
        have HB1:=Lib.hid (HBW.out.below hb0 HBW.out.lt)
        have HN1:Hid (Blk wi0 sb 64 #[.int .i64 (i:Int),.int .i64 z]):=Lib.hid (by rw [hwi0,hsb];exact Blk.new _ _ _)
        have HSZ1:Hid (sb < wi0.heap.size∧w.heap.size≤sb):=Lib.hid (by rw [hwi0,hsb];exact ⟨by simp,HKW.out.size⟩)
        have HWI0:=Lib.hid hwi0
        clear hy hz hf hroom hb0 hsb hwi0 k1 fz1
        go_upto_region 9 with fail
        rw [← HWI0.out,← HSB.out]
        refine wp_region_held_drew (S:=fun w'=>w'.cell? ⟨b,0,none⟩=some (.map (some mb))∧w'.cell? ⟨sb,0,none⟩=some (.int .i64 (i:Int))∧w'.cell? ⟨sb,1,none⟩=some (.int .i64 z)) (by kernel_rfl) ⟨HB1.out.cell 0,HN1.out.cell 0,HN1.out.cell 1⟩ (fun hHeld=>?_)
        obtain ⟨u0,hu0⟩:∃ z,z=wi0.drew:=⟨_,rfl⟩
        rw [← hu0] at hHeld ⊢
        have HP2:=Lib.hid (show PMap u0 mb (totT L+i) f G from HP1.out.keep fun j _=>by rw [hu0];rfl)
        have HK2:=Lib.hid (show Kept F w u0 from by rw [hu0];exact HK1.out.drew)
        have HB2:=Lib.hid (show Blk u0 b _ _ from by rw [hu0];exact HB1.out.drew)
        have HN2:=Lib.hid (show Blk u0 sb _ _ from by rw [hu0];exact HN1.out.drew)
        have HSZ2:Hid (sb < u0.heap.size):=Lib.hid (by rw [hu0];exact HSZ1.out.1)
        have hS0:(fun w':World=>w'.cell? ⟨b,0,none⟩=some (.map (some mb))∧w'.cell? ⟨sb,0,none⟩=some (.int .i64 (i:Int))∧w'.cell? ⟨sb,1,none⟩=some (.int .i64 z)) u0:=⟨HB2.out.cell 0,HN2.out.cell 0,HN2.out.cell 1⟩
        clear hu0
        refine wpAnyH_take (i:=0) (oi:=?oiz10) (v:=?vz10) ?hiz10 (by kernel_rfl) (by kernel_rfl) (by kernel_rfl) ?hQz10 (Or.inl ⟨?hwz10,?hyz10⟩) (by assumption) ?restz10
        case hiz10=>(first | (simp only [lz0,lz1,lz2];rfl) | rfl)
        case hQz10=>exact fun _ _ _ h=>h
        case hwz10=>rfl
        case hyz10=>((intro w hSw;go_simp);first | done | with_reducible rfl)
        try simp only [Act.put,lz3,lz4,lz5]
        refine wpAnyH_take (i:=4) (oi:=?oiz24) (v:=?vz24) ?hiz24 (by kernel_rfl) (by kernel_rfl) (by kernel_rfl) ?hQz24 (Or.inl ⟨?hwz24,?hyz24⟩) (by assumption) ?restz24
        case hiz24=>(first | (simp only [lz0,lz1,lz2];rfl) | rfl)
        case hQz24=>exact fun _ _ _ h=>h
        case hwz24=>rfl
        case hyz24=>((intro w hSw;go_simp);first | done | with_reducible rfl)
        try simp only [Act.put,lz3,lz4,lz5]
        refine wpAnyH_take (i:=5) (oi:=?oiz35) (v:=?vz35) ?hiz35 (by kernel_rfl) (by kernel_rfl) (by kernel_rfl) ?hQz35 (Or.inl ⟨?hwz35,?hyz35⟩) (by assumption) ?restz35
        case hiz35=>(first | (simp only [lz0,lz1,lz2];rfl) | rfl)
        case hQz35=>exact fun _ _ _ h=>h
        case hwz35=>rfl
        case hyz35=>((intro w hSw;go_simp);first | done | with_reducible rfl)
        try simp only [Act.put,lz3,lz4,lz5]
        refine wpAnyH_take (i:=9) (oi:=?oiz49) (v:=?vz49) ?hiz49 (by kernel_rfl) (by kernel_rfl) (by kernel_rfl) ?hQz49 (Or.inl ⟨?hwz49,?hyz49⟩) (by assumption) ?restz49
        case hiz49=>(first | (simp only [lz0,lz1,lz2];rfl) | rfl)
        case hQz49=>exact fun _ _ _ h=>h
        case hwz49=>rfl
        case hyz49=>((intro w hSw;go_simp);first | done | with_reducible rfl)
        try simp only [Act.put,lz3,lz4,lz5]
        refine wpAnyH_take (i:=11) (oi:=?oiz511) (v:=?vz511) ?hiz511 (by kernel_rfl) (by kernel_rfl) (by kernel_rfl) ?hQz511 (Or.inl ⟨?hwz511,?hyz511⟩) (by assumption) ?restz511
        case hiz511=>(first | (simp only [lz0,lz1,lz2];rfl) | rfl)
        case hQz511=>exact fun _ _ _ h=>h
        case hwz511=>rfl
        case hyz511=>((intro w hSw;go_simp);first | done | with_reducible rfl)
        try simp only [Act.put,lz3,lz4,lz5]
        refine wpAnyH_take (i:=12) (oi:=?oiz612) (v:=?vz612) ?hiz612 (by kernel_rfl) (by kernel_rfl) (by kernel_rfl) ?hQz612 (Or.inl ⟨?hwz612,?hyz612⟩) (by assumption) ?restz612
        case hiz612=>(first | (simp only [lz0,lz1,lz2];rfl) | rfl)
        case hQz612=>exact fun _ _ _ h=>h
        case hwz612=>rfl
        case hyz612=>((intro w hSw;go_simp);first | done | with_reducible rfl)
        try simp only [Act.put,lz3,lz4,lz5]
        refine wpAnyH_take (i:=1) (oi:=?oiz71) (v:=?vz71) ?hiz71 (by kernel_rfl) (by kernel_rfl) (by kernel_rfl) ?hQz71 (Or.inl ⟨?hwz71,?hyz71⟩) (by assumption) ?restz71
        case hiz71=>(first | (simp only [lz0,lz1,lz2];rfl) | rfl)
        case hQz71=>exact fun _ _ _ h=>h
        case hwz71=>rfl
        case hyz71=>((intro w hSw;go_simp);first | done | with_reducible rfl)
        try simp only [Act.put,lz3,lz4,lz5]
        refine wpAnyH_take (i:=6) (oi:=?oiz86) (v:=?vz86) ?hiz86 (by kernel_rfl) (by kernel_rfl) (by kernel_rfl) ?hQz86 (Or.inl ⟨?hwz86,?hyz86⟩) (by assumption) ?restz86
        case hiz86=>(first | (simp only [lz0,lz1,lz2];rfl) | rfl)
        case hQz86=>exact fun _ _ _ h=>h
        case hwz86=>rfl
        case hyz86=>((intro w hSw;go_simp);first | done | with_reducible rfl)
        try simp only [Act.put,lz3,lz4,lz5]
        refine wpAnyH_take (i:=13) (oi:=?oiz913) (v:=?vz913) ?hiz913 (by kernel_rfl) (by kernel_rfl) (by kernel_rfl) ?hQz913 (Or.inl ⟨?hwz913,?hyz913⟩) (by assumption) ?restz913
        case hiz913=>(first | (simp only [lz0,lz1,lz2];rfl) | rfl)
        case hQz913=>exact fun _ _ _ h=>h
        case hwz913=>rfl
        case hyz913=>((intro w hSw;go_simp);first | done | with_reducible rfl)
        try simp only [Act.put,lz3,lz4,lz5]
        refine wpAnyH_take (i:=2) (oi:=?oiz102) (v:=?vz102) ?hiz102 (by kernel_rfl) (by kernel_rfl) (by kernel_rfl) ?hQz102 (Or.inl ⟨?hwz102,?hyz102⟩) (by assumption) ?restz102
        case hiz102=>(first | (simp only [lz0,lz1,lz2];rfl) | rfl)
        case hQz102=>exact fun _ _ _ h=>h
        case hwz102=>rfl
        case hyz102=>((intro w hSw;go_simp);first | done | with_reducible rfl)
        try simp only [Act.put,lz3,lz4,lz5]
        refine wpAnyH_take (i:=7) (oi:=?oiz117) (v:=?vz117) ?hiz117 (by kernel_rfl) (by kernel_rfl) (by kernel_rfl) ?hQz117 (Or.inl ⟨?hwz117,?hyz117⟩) (by assumption) ?restz117
        case hiz117=>(first | (simp only [lz0,lz1,lz2];rfl) | rfl)
        case hQz117=>exact fun _ _ _ h=>h
        case hwz117=>rfl
        case hyz117=>((intro w hSw;go_simp);first | done | with_reducible rfl)
        try simp only [Act.put,lz3,lz4,lz5]
        refine wpAnyH_take (i:=3) (oi:=?oiz123) (v:=?vz123) ?hiz123 (by kernel_rfl) (by kernel_rfl) (by kernel_rfl) ?hQz123 (Or.inl ⟨?hwz123,?hyz123⟩) (by assumption) ?restz123
        case hiz123=>(first | (simp only [lz0,lz1,lz2];rfl) | rfl)
        case hQz123=>exact fun _ _ _ h=>h
        case hwz123=>rfl
        case hyz123=>((intro w hSw;go_simp);first | done | with_reducible rfl)
        try simp only [Act.put,lz3,lz4,lz5]
        refine wpAnyH_take (i:=8) (oi:=?oiz138) (v:=?vz138) ?hiz138 (by kernel_rfl) (by kernel_rfl) (by kernel_rfl) ?hQz138 (Or.inl ⟨?hwz138,?hyz138⟩) (by assumption) ?restz138
        case hiz138=>(first | (simp only [lz0,lz1,lz2];rfl) | rfl)
        case hQz138=>exact fun _ _ _ h=>h
        case hwz138=>rfl
        case hyz138=>((intro w hSw;go_simp);first | done | with_reducible rfl)
        try simp only [Act.put,lz3,lz4,lz5]
        refine wpAnyH_ready (rs:=[10,14]) (by kernel_rfl) (by simp) ?_
        refine AllReadyH.cons (o:=?oz14) ?hz14 ?sz14 (AllReadyH.cons (o:=?oz15) ?hz15 ?sz15 AllReadyH.nil)
        case hz14=>(simp only [lz0,lz1,lz2];rfl)
        case hz15=>(simp only [lz0,lz1,lz2];rfl)
        case sz14=>
         intro K hK
         obtain ⟨vq1,hrq2,hOq3,hVGq4,hBKq5⟩:=HP2.out.step HROOM.out HYF.out
         obtain ⟨Avq1,cvq1,rfl⟩:=own_slice hOq3
         go_simp
         clear hrq2
         have Oq3:=Lib.hid hOq3
         have VGq4:=Lib.hid hVGq4
         have BKq5:=Lib.hid hBKq5
         have LGq6:=Lib.hid (World.grownBy.refl u0 (Value.slice Avq1 (f y).length cvq1).ownBlock)
         clear hOq3 hVGq4 hBKq5
         have LWSq7:=Lib.hid (show w.heap.size≤u0.heap.size from HK2.out.size)
         refine hK.out _ _ ⟨HB2.out.cell 0,HN2.out.cell 0,HN2.out.cell 1⟩ (fun hz16=>?_)
         clear hK K
         try simp only [Act.put,lz3,lz4,lz5]
         refine wpAnyH_ready (rs:=[14]) (by kernel_rfl) (by simp) ?_
         refine AllReadyH.cons (o:=?oz17) ?hz17 ?sz17 AllReadyH.nil
         case hz17=>(simp only [lz0,lz1,lz2];rfl)
         case sz17=>
          intro K hK
          go_simp
          obtain ⟨uq8,huq9⟩:∃ zz,zz=u0.alloc (.cells #[.int .i64 doc,.int .i64 (i:Int),.int .i64 z] 165):=⟨_,rfl⟩
          have Mq14:Hid (Blk uq8 u0.heap.size 165 #[.int .i64 doc,.int .i64 (i:Int),.int .i64 z]):=Lib.hid (by rw [huq9];exact Blk.new _ _ _)
          rw [← huq9]
          have hBq10:Below u0.heap.size u0 uq8:=by rw [huq9];exact (Below.refl _ u0).alloc (Nat.le_refl _) _
          have Bq10:=Lib.hid (HB2.out.below hBq10 HB2.out.lt)
          have Nq11:=Lib.hid (HN2.out.below hBq10 HN2.out.lt)
          have Kq12:=Lib.hid (show Kept F w uq8 from by rw [huq9];exact HK2.out.alloc _)
          have Zq15:Hid (sb < uq8.heap.size):=Lib.hid (Nat.lt_of_lt_of_le HSZ2.out hBq10.size)
          have Oq16:=Lib.hid (ownsRow_block Oq3.out (fun g hg=>hBq10.block g (World.ownsRow.lt Oq3.out g hg).2))
          have LGq17:=Lib.hid (LGq6.out.trans (show World.grownBy u0 uq8 _ from by rw [huq9];exact World.grownBy_alloc _ _ _))
          clear huq9 hBq10
          refine hK.out _ _ ⟨Bq10.out.cell 0,Nq11.out.cell 0,Nq11.out.cell 1⟩ (fun hz18=>?_)
          clear hK K
          try simp only [Act.put,lz3,lz4,lz5]
          refine wpAnyH_ready (rs:=[15]) (by kernel_rfl) (by simp) ?_
          refine AllReadyH.cons (o:=?oz19) ?hz19 ?sz19 AllReadyH.nil
          case hz19=>(simp only [lz0,lz1,lz2];rfl)
          case sz19=>
           intro K hK
           refine step_append_recK _ rfl (.tmp 61) (.tmp 65) 154 rfl (mb+1) 165 i0 _ 3 24 Tryz.underlying154 hi hz0 hz1 hz2 rfl (by decide) _ (f y).length _ rfl Oq16.out ⟨u0.heap.size,0,none⟩ 1 1 (plCells (doc,(i:Int),z)) rfl rfl (pl_new (p:=(doc,(i:Int),z)) Mq14.out) (pl_one _) (by unfold maxLen;omega) (by omega) (Nat.le_of_lt (Nat.lt_of_le_of_lt (by have:=HMB.out.1;have:=(HGW.out mb this).2;have:=HSB.out;omega) Zq15.out)) ?_
           intro vq22 uq18 hwq19 hgq20 hlq21
           have Bq23:=Lib.hid (Bq10.out.grown hgq20 (fun e=>(HGR.out b ((VGq4.out b e.symm).1)).1 rfl))
           have Nq24:=Lib.hid (Nq11.out.grown hgq20 (fun e=>(HGR.out sb ((VGq4.out sb e.symm).1)).2.1 rfl))
           have Kq25:=Lib.hid (Kq12.out.grown hgq20 (fun g hg=>(HGR.out g ((VGq4.out g hg).1)).2.2))
           have LGq26:=Lib.hid (LGq17.out.trans hgq20)
           have Zq28:Hid (sb < uq18.heap.size):=Lib.hid (Nat.lt_of_lt_of_le Zq15.out hgq20.size)
           have LCq29:=Lib.hid (show vq22.ownBlock=(Value.slice Avq1 (f y).length cvq1).ownBlock∨∃ g,vq22.ownBlock=some g∧u0.heap.size≤g from hlq21.imp id (fun e=>⟨_,e,LGq17.out.size⟩))
           have Oq27:=Lib.hid hwq19
           clear hwq19 hgq20 hlq21
           refine hK.out _ _ ⟨Bq23.out.cell 0,Nq24.out.cell 0,Nq24.out.cell 1⟩ (fun hz20=>?_)
           clear hK K
           try simp only [Act.put,lz3,lz4,lz5]
           refine wpAnyH_ready (rs:=[16]) (by kernel_rfl) (by simp) ?_
           refine AllReadyH.cons (o:=?oz21) ?hz21 ?sz21 AllReadyH.nil
           case hz21=>(simp only [lz0,lz1,lz2];rfl)
           case sz21=>
            intro K hK
            obtain ⟨uq30,hrq31,hpq32,hgq33⟩:=BKq5.out uq18 vq22 (doc,(i:Int),z) LGq26.out Oq27.out LCq29.out
            go_simp
            clear hrq31
            have Bq34:=Lib.hid (Bq23.out.grown hgq33 (fun e=>HMB.out.2.1 (Option.some.inj e).symm))
            have Nq35:=Lib.hid (Nq24.out.grown hgq33 (fun e=>HMB.out.2.2.1 (Option.some.inj e).symm))
            have Kq36:=Lib.hid (Kq25.out.grown hgq33 (fun g hg=>by cases hg;exact HMB.out.2.2.2))
            have Pq37:=Lib.hid hpq32
            have Zq38:=Lib.hid (show u0.heap.size≤uq30.heap.size∧sb < uq30.heap.size from ⟨Nat.le_trans LGq26.out.size hgq33.size,Nat.lt_of_lt_of_le Zq28.out hgq33.size⟩)
            clear hpq32 hgq33
            refine hK.out _ _ ⟨Bq34.out.cell 0,Nq35.out.cell 0,Nq35.out.cell 1⟩ (fun hz22=>?_)
            clear hK K
            try simp only [Act.put,lz3,lz4,lz5]
            refine wpAnyH_done (by kernel_rfl) ?_ _
            go_wp2
            go_roundw
            case rel=>
             refine ⟨i+1,fun j=>G j∨(u0.heap.size≤j∧j < uq30.heap.size),by omega,by go_num,(Pq37.out.lets HNXT.out (fun _ h=>h)).more (by omega),Kq36.out,Bq34.out,fun j hj=>?_⟩
             have h1:=HSZ1.out
             have h2:=HSB.out
             have h3:=Zq38.out
             rcases hj with hj | hj
             ·have h4:=HGW.out j hj
              exact ⟨h4.1,by omega⟩
             ·exact ⟨.inr (Nat.le_trans LWSq7.out hj.1),hj.2⟩
            case measure=>simp [Go.RowKit.intOf];omega
        case sz15=>
         intro K hK
         go_simp
         obtain ⟨uq39,huq40⟩:∃ zz,zz=u0.alloc (.cells #[.int .i64 doc,.int .i64 (i:Int),.int .i64 z] 165):=⟨_,rfl⟩
         have Mq45:Hid (Blk uq39 u0.heap.size 165 #[.int .i64 doc,.int .i64 (i:Int),.int .i64 z]):=Lib.hid (by rw [huq40];exact Blk.new _ _ _)
         rw [← huq40]
         have hBq41:Below u0.heap.size u0 uq39:=by rw [huq40];exact (Below.refl _ u0).alloc (Nat.le_refl _) _
         have Bq41:=Lib.hid (HB2.out.below hBq41 HB2.out.lt)
         have Nq42:=Lib.hid (HN2.out.below hBq41 HN2.out.lt)
         have Kq43:=Lib.hid (show Kept F w uq39 from by rw [huq40];exact HK2.out.alloc _)
         have Zq46:Hid (sb < uq39.heap.size):=Lib.hid (Nat.lt_of_lt_of_le HSZ2.out hBq41.size)
         have Pq44:=Lib.hid (HP2.out.keep (w':=uq39) fun j hj=>hBq41.block j (Nat.lt_of_lt_of_le (HGW.out j hj).2 (by have:=HSZ2.out;have:=HSB.out;omega)))
         clear huq40 hBq41
         refine hK.out _ _ ⟨Bq41.out.cell 0,Nq42.out.cell 0,Nq42.out.cell 1⟩ (fun hz23=>?_)
         clear hK K
         try simp only [Act.put,lz3,lz4,lz5]
         refine wpAnyH_ready (rs:=[10]) (by kernel_rfl) (by simp) ?_
         refine AllReadyH.cons (o:=?oz24) ?hz24 ?sz24 AllReadyH.nil
         case hz24=>(simp only [lz0,lz1,lz2];rfl)
         case sz24=>
          intro K hK
          obtain ⟨vq47,hrq48,hOq49,hVGq50,hBKq51⟩:=Pq44.out.step HROOM.out HYF.out
          obtain ⟨Avq47,cvq47,rfl⟩:=own_slice hOq49
          go_simp
          clear hrq48
          have Oq49:=Lib.hid hOq49
          have VGq50:=Lib.hid hVGq50
          have BKq51:=Lib.hid hBKq51
          have LGq52:=Lib.hid (World.grownBy.refl uq39 (Value.slice Avq47 (f y).length cvq47).ownBlock)
          clear hOq49 hVGq50 hBKq51
          have LWSq53:=Lib.hid (show w.heap.size≤uq39.heap.size from Kq43.out.size)
          refine hK.out _ _ ⟨Bq41.out.cell 0,Nq42.out.cell 0,Nq42.out.cell 1⟩ (fun hz25=>?_)
          clear hK K
          try simp only [Act.put,lz3,lz4,lz5]
          refine wpAnyH_ready (rs:=[15]) (by kernel_rfl) (by simp) ?_
          refine AllReadyH.cons (o:=?oz26) ?hz26 ?sz26 AllReadyH.nil
          case hz26=>(simp only [lz0,lz1,lz2];rfl)
          case sz26=>
           intro K hK
           refine step_append_recK _ rfl (.tmp 61) (.tmp 65) 154 rfl (mb+1) 165 i0 _ 3 24 Tryz.underlying154 hi hz0 hz1 hz2 rfl (by decide) _ (f y).length _ rfl Oq49.out ⟨u0.heap.size,0,none⟩ 1 1 (plCells (doc,(i:Int),z)) rfl rfl (pl_new (p:=(doc,(i:Int),z)) Mq45.out) (pl_one _) (by unfold maxLen;omega) (by omega) (Nat.le_of_lt (Nat.lt_of_le_of_lt (by have:=HMB.out.1;have:=(HGW.out mb this).2;have:=HSB.out;omega) Zq46.out)) ?_
           intro vq58 uq54 hwq55 hgq56 hlq57
           have Bq59:=Lib.hid (Bq41.out.grown hgq56 (fun e=>(HGR.out b ((VGq50.out b e.symm).1)).1 rfl))
           have Nq60:=Lib.hid (Nq42.out.grown hgq56 (fun e=>(HGR.out sb ((VGq50.out sb e.symm).1)).2.1 rfl))
           have Kq61:=Lib.hid (Kq43.out.grown hgq56 (fun g hg=>(HGR.out g ((VGq50.out g hg).1)).2.2))
           have LGq62:=Lib.hid (LGq52.out.trans hgq56)
           have Zq64:Hid (sb < uq54.heap.size):=Lib.hid (Nat.lt_of_lt_of_le Zq46.out hgq56.size)
           have LCq65:=Lib.hid (show vq58.ownBlock=(Value.slice Avq47 (f y).length cvq47).ownBlock∨∃ g,vq58.ownBlock=some g∧uq39.heap.size≤g from hlq57.imp id (fun e=>⟨_,e,LGq52.out.size⟩))
           have Oq63:=Lib.hid hwq55
           clear hwq55 hgq56 hlq57
           refine hK.out _ _ ⟨Bq59.out.cell 0,Nq60.out.cell 0,Nq60.out.cell 1⟩ (fun hz27=>?_)
           clear hK K
           try simp only [Act.put,lz3,lz4,lz5]
           refine wpAnyH_ready (rs:=[16]) (by kernel_rfl) (by simp) ?_
           refine AllReadyH.cons (o:=?oz28) ?hz28 ?sz28 AllReadyH.nil
           case hz28=>(simp only [lz0,lz1,lz2];rfl)
           case sz28=>
            intro K hK
            obtain ⟨uq66,hrq67,hpq68,hgq69⟩:=BKq51.out uq54 vq58 (doc,(i:Int),z) LGq62.out Oq63.out LCq65.out
            go_simp
            clear hrq67
            have Bq70:=Lib.hid (Bq59.out.grown hgq69 (fun e=>HMB.out.2.1 (Option.some.inj e).symm))
            have Nq71:=Lib.hid (Nq60.out.grown hgq69 (fun e=>HMB.out.2.2.1 (Option.some.inj e).symm))
            have Kq72:=Lib.hid (Kq61.out.grown hgq69 (fun g hg=>by cases hg;exact HMB.out.2.2.2))
            have Pq73:=Lib.hid hpq68
            have Zq74:=Lib.hid (show uq39.heap.size≤uq66.heap.size∧sb < uq66.heap.size from ⟨Nat.le_trans LGq62.out.size hgq69.size,Nat.lt_of_lt_of_le Zq64.out hgq69.size⟩)
            clear hpq68 hgq69
            refine hK.out _ _ ⟨Bq70.out.cell 0,Nq71.out.cell 0,Nq71.out.cell 1⟩ (fun hz29=>?_)
            clear hK K
            try simp only [Act.put,lz3,lz4,lz5]
            refine wpAnyH_done (by kernel_rfl) ?_ _
            go_wp2
            go_roundw
            case rel=>
             refine ⟨i+1,fun j=>G j∨(uq39.heap.size≤j∧j < uq66.heap.size),by omega,by go_num,(Pq73.out.lets HNXT.out (fun _ h=>h)).more (by omega),Kq72.out,Bq70.out,fun j hj=>?_⟩
             have h1:=HSZ1.out
             have h2:=HSB.out
             have h3:=Zq74.out
             rcases hj with hj | hj
             ·have h4:=HGW.out j hj
              exact ⟨h4.1,by omega⟩
             ·exact ⟨.inr (Nat.le_trans LWSq53.out hj.1),hj.2⟩
            case measure=>simp [Go.RowKit.intOf];omega
       ·obtain rfl:i=n:=by omega
        have hlz:¬ ((i:Int) < (i:Int)):=by omega
        have d1:decide ((i:Int) < (i:Int))=false:=by simp
        have hwN:IntKind.i64.wrap ((N:Int)+1)=(N:Int)+1:=IntWalk.i64_in _ (by omega)
        have hwD:IntKind.i64.wrap (doc+1)=doc+1:=IntWalk.i64_in _ (by omega)
        have hB3:=HBW.out.set_ 1 (.int .i64 ((N:Int)+1))
        have k2:=hB3.cell 2
        have fz2:=hB3.frozen 2
        simp only [lz3,lz5,lz4,lz0,lz1,lz2] at k2
        have hB4:=hB3.set_ 2 (.int .i64 (doc+1))
        have HB4:=Lib.hid hB4
        clear hB3 hB4
        go_wp2
        go_ret
        obtain ⟨wf,hwf⟩:∃ z,z=(wr.setCell ⟨b,1,none⟩ (.int .i64 ((N:Int)+1))).setCell ⟨b,2,none⟩ (.int .i64 (doc+1)):=⟨_,rfl⟩
        have hb4:=HB4.out
        rw [← hwf] at hb4 ⊢
        have hsz:wf.heap.size=wr.heap.size:=by rw [hwf,size_setCell',size_setCell']
        have hoth:∀ j,j≠b→wf.heap[j]?=wr.heap[j]?:=fun j hj=>by rw [hwf];exact (heap_setCell_other _ _ _ hj).trans (heap_setCell_other _ _ _ hj)
        have hk4:Kept F w wf:=by rw [hwf];exact (HKW.out.setCell (p:=⟨b,1,none⟩) (.inl HFB.out) _).setCell (p:=⟨b,2,none⟩) (.inl HFB.out) _
        have hadd:mAdd L x=L++[x]:=by unfold mAdd;rw [if_pos HZ.out]
        have hjb:∀ j,G j→j≠b:=fun j hj=>by
         have h1:=HGW.out j hj
         rcases h1.1 with h | h
         ·exact h.2
         ·omega
        refine ⟨by rw [HZ.out];rfl,fun j=>j=b∨G j,?_,hk4,fun j hj=>?_⟩
        ·rw [hadd]
         refine ⟨.inl rfl,fun j hj=>?_,mb,?_,?_⟩
         ·rw [hsz]
          rcases hj with rfl | hj
          ·exact HBW.out.lt
          ·exact (HGW.out j hj).2
         ·rw [lastM_next,List.length_append,List.length_singleton,← HN.out,← HDOC.out]
          exact hb4
         ·refine ((HPM.out.keep fun j hj=>hoth j (hjb j hj)).lets (fun t=>?_) (fun j hj=>⟨.inr hj,hjb j hj⟩)).more ?_
          ·rw [plOf_append,HTL.out]
           rfl
          ·rw [totT_append]
           simp [totT,HTL.out]
        ·rcases hj with rfl | hj
         ·exact .inl HFB.out
         ·exact (HGW.out j hj).1.imp (fun h=>h.1) id
theorem m0Terms_any {w:World} {F:Nat→Prop} {b:Nat} {L:List MDoc} (h:M0 w F b L) (hW:MWF L) (hT:totT L≤20000):Calls Tryz.prog 31 #[.pointer (some ⟨b,0,none⟩)] w (IntsBack w (mTerms L)):=by
 obtain ⟨h1,h2,mb,h3,h4⟩:=h
 obtain ⟨D,hM,hD⟩:=h4.own
 have c0:=h3.cell 0
 simp only [lz0,lz1] at c0
 have hmax:Maps.size D≤maxLen:=by have:=hM.size_le;unfold maxLen;omega
 have hbytes:Maps.size D * 8≤140737488355328:=by have:=hM.size_le;omega
 have hup:=terms_up L
 have hlen:=terms_len L
 have hfit:∀ x∈mTerms L,-9223372036854775808≤x∧x≤9223372036854775807:=fun x hx=>by
  obtain ⟨y,hy,h5⟩:=terms_mem.1 hx
  have h6:=(hW.ok y hy).fit.1 x h5
  obtain ⟨i,hi,rfl⟩:=List.getElem_of_mem h5
  have h7:=((hW.ok y hy).tok hi).1
  rw [List.getD_eq_getElem?_getD,List.getElem?_eq_getElem hi] at h7
  simp only [Option.getD_some] at h7
  omega
 have HKE:=Lib.hid ((callsIn_wide (n:=5)).1 (Tryz.imaps_Keys (some mb) w))
 have hso:Calls Tryz.prog 69 #[.func (.func 127) #[] #[.pointer (some ⟨w.heap.size,0,none⟩)]] (w.alloc (.cells #[.map (some mb)] 153)) (IntsBack w (mTerms L)):=by
  refine ((callsIn_wide (n:=5)).1 (Tryz.islices_Sorted_keys mb (totT L) D _ w hM hmax hbytes)).mono ?_
  rintro e2 w2 ⟨v,ss,rfl,hP,hrow,hnil,hb⟩
  have hk1:ss.mergeSort leI=mTerms L:=PMap.keys hM hD hup (fun t=>plOf_some.symm) hP
  have hrow':w2.ownsRow (w.alloc (.cells #[.map (some mb)] 153)).heap.size 3 1 v ss.length ((ss.mergeSort leI).map i64V):=hrow
  have hsl:ss.length=(mTerms L).length:=by rw [← hk1];exact (List.mergeSort_perm ss leI).length_eq.symm
  rw [hk1,hsl] at hrow'
  obtain ⟨A,c,rfl,hc⟩:=own_cap hrow'
  exact ⟨A,c,rfl,IntsIn.own hrow' (by unfold maxLen;omega) hfit,hc,((Below.refl _ w).alloc (Nat.le_refl _) _).trans (hb.mono (by simp))⟩
 have HSO:=Lib.hid hso
 clear hso hmax hbytes hfit hup hM hD h4 h3 h2 h1
 go_enter Tryz.func31,Tryz.ntmps31
 go_wp2_with (first
  | (go_at_call 76;refine HKE.out.mono ?_;rintro e2 w2 ⟨rfl,rfl⟩)
  | (go_at_call 69;refine HSO.out.mono ?_;rintro e2 w2 ⟨Ak,ck,rfl,hki,hck,hb2⟩))
 go_ret
 exact ⟨Ak,ck,rfl,hki,hck,hb2⟩
theorem zero_add' (g k:Nat):(⟨g,0,none⟩:Addr).add k=⟨g,k,none⟩:=by
 unfold Addr.add
 split
 ·rename_i h0;rw [h0]
 ·simp
theorem own_setN {w:World} {base:Nat} {e:TypeId} {size:Nat} {pa:Addr} {n c m:Nat} {xs:List Value} (h:w.ownsRow base e size (.slice (some pa) n c) m xs) (k:Nat) (u:Value):(w.setCell (pa.add k) u).ownsRow base e size (.slice (some pa) n c) m (xs.set k u):=by
 refine ⟨by rw [List.length_set];exact h.1,?_⟩
 rcases h.2 with ⟨h1,_⟩ | ⟨g,cap,cur,h1,hb,hblk,hnc,hcm,hcs,hx⟩
 ·cases h1
 ·simp only [Value.slice.injEq,Option.some.injEq] at h1
  obtain ⟨rfl,rfl,rfl⟩:=h1
  rw [zero_add']
  have hB:Blk w g e cur:=hblk
  refine .inr ⟨g,_,cur.setIfInBounds k u,rfl,hb,hB.set_ k u,hnc,hcm,by simpa using hcs,?_⟩
  rw [← hx,Array.toList_setIfInBounds,List.take_set]
theorem own_frozen {w:World} {base:Nat} {e:TypeId} {size:Nat} {pa:Addr} {n c m:Nat} {xs:List Value} (h:w.ownsRow base e size (.slice (some pa) n c) m xs) (k:Nat):w.frozen? (pa.add k)=false:=by
 rcases h.2 with ⟨h1,_⟩ | ⟨g,cap,cur,h1,hb,hblk,_⟩
 ·cases h1
 ·simp only [Value.slice.injEq,Option.some.injEq] at h1
  obtain ⟨rfl,rfl,rfl⟩:=h1
  rw [zero_add']
  exact Blk.frozen (t:=e) (cs:=cur) hblk k
theorem own_cellN {w:World} {base:Nat} {e:TypeId} {size:Nat} {pa:Addr} {n c m:Nat} {xs:List Value} (h:w.ownsRow base e size (.slice (some pa) n c) m xs) {k:Nat} {u:Value} (hk:xs[k]?=some u):w.cell? (pa.add k)=some u:=by
 have h2:=h
 rcases h.2 with ⟨h1,_⟩ | ⟨g,cap,cur,h1,hb,hblk,_⟩
 ·cases h1
 ·simp only [Value.slice.injEq,Option.some.injEq] at h1
  obtain ⟨rfl,rfl,rfl⟩:=h1
  exact h2.cells (g:=g) rfl k u hk
theorem posts_spots_ne:(64:TypeId)≠62:=by decide
structure PostB (w:World) (base:Nat) (v vs:Value) (P:List Pst) (x:Pst):Prop where
 fit:fits64 x.1∧∀ s∈x.2,fits64 s.1∧fits64 s.2
 spots:w.ownsRow base 64 2 vs x.2.length (x.2.flatMap twoCells)
 row:∃ R:List (Int×Value),R.length=P.length∧w.ownsRow base 62 2 v (P.length+1) (R.flatMap docCells++docCells (x.1,vs))∧
  ∀ (i:Nat) (p:Int×Value) (y:Pst),R[i]?=some p→P[i]?=some y→PostAt w y p fun i=>base≤i∧v.ownBlock≠some i∧vs.ownBlock≠some i
section
variable {w w':World} {base:Nat} {v vs v' vs':Value} {P L:List Pst} {x:Pst}
theorem PostB.keep (h:PostB w base v vs P x) (hb:∀ i,base≤i→i < w.heap.size→w'.heap[i]?=w.heap[i]?) (hs:w.heap.size≤w'.heap.size):PostB w' base v vs P x:=by
 obtain ⟨R,h1,h2,h3⟩:=h.row
 exact ⟨h.fit,ownsRow_block h.spots fun g hg=>hb g (h.spots.lt g hg).1 (h.spots.lt g hg).2,R,h1,ownsRow_block h2 fun g hg=>hb g (h2.lt g hg).1 (h2.lt g hg).2,
  fun i p y e1 e2=>(h3 i p y e1 e2).mono (fun j hj hf=>⟨hb j hf.1 hj,hf⟩) hs⟩
theorem PostB.below (h:PostB w base v vs P x) (hb:Below w.heap.size w w'):PostB w' base v vs P x:=h.keep (fun i _ hi=>hb.block i hi) hb.size
theorem PostB.apart (h:PostB w base v vs P x):∀ g,vs.ownBlock=some g→v.ownBlock≠some g:=by
 obtain ⟨R,h1,h2,h3⟩:=h.row
 exact own_row_ne h.spots h2 posts_spots_ne
theorem PostB.posts (h:PostB w base v vs P x) (h63:x.2.length≤maxLen):PostsO w base v (P++[x]):=by
 have hap:=h.apart
 obtain ⟨R,h1,h2,h3⟩:=h.row
 refine ⟨R++[(x.1,vs)],by simp [h1],by simpa using h2,fun i p y e1 e2=>?_⟩
 rcases Nat.lt_or_ge i P.length with hi | hi
 ·rw [List.getElem?_append_left (by omega)] at e1 e2
  exact (h3 i p y e1 e2).mono (fun j _ hf=>⟨rfl,hf.1,hf.2.1⟩) (Nat.le_refl _)
 ·have hlt:=(List.getElem?_eq_some_iff.1 e2).1
  simp at hlt
  obtain rfl:i=P.length:=by omega
  rw [List.getElem?_append_right (by omega)] at e1 e2
  simp [h1] at e1 e2
  subst e1 e2
  have hsp:=h.spots
  obtain ⟨A,c,rfl⟩:=own_slice hsp
  refine ⟨rfl,h.fit.1,A,c,rfl,rowCap_le hsp,PairsIn.ownTwo hsp rfl h63 h.fit.2,fun ad e _=>?_⟩
  have:=hsp.lt ad.block (by rw [e];rfl)
  exact ⟨this.2,this.1,hap _ (by rw [e];rfl)⟩
theorem PostB.of_push {R:List (Int×Value)} {d:Int} (hd:fits64 d) (h0:R.length=L.length) (h2:∀ (i:Nat) (p:Int×Value) (x:Pst),R[i]?=some p→L[i]?=some x→PostAt w x p fun i=>base≤i∧v.ownBlock≠some i)
  (ho:w'.ownsRow base 62 2 v' (L.length+1) (R.flatMap docCells++docCells (d,.slice none 0 0))) (hg:w.grownBy w' v.ownBlock) (hloc:v'.ownBlock=v.ownBlock∨v'.ownBlock=some w.heap.size):PostB w' base v' (.slice none 0 0) L (d,[]):=by
 refine ⟨⟨hd,by simp⟩,⟨rfl,.inl ⟨rfl,rfl⟩⟩,R,h0,ho,fun i q y e1 e2=>(h2 i q y e1 e2).mono (fun i hi hf=>⟨hg.block i hi (fun e=>hf.2 e.symm),hf.1,?_,by simp [Value.ownBlock]⟩) hg.size⟩
 rcases hloc with e | e
 ·rw [e];exact hf.2
 ·rw [e]
  intro e2
  have:=Option.some.inj e2
  omega
theorem PostB.at (h:PostB w base v vs P x):∃ pa c,v=.slice (some pa) (P.length+1) c∧w.cell? (pa.add (P.length * 2))=some (.int .i64 x.1)∧w.cell? ⟨(pa.add (P.length * 2)).block,(pa.add (P.length * 2)).off+1,none⟩=some vs∧w.frozen? ⟨(pa.add (P.length * 2)).block,(pa.add (P.length * 2)).off+1,none⟩=false:=by
 obtain ⟨R,h1,h2,h3⟩:=h.row
 obtain ⟨A,c,rfl⟩:=own_slice h2
 cases A with
 | none=>
  rcases h2.2 with ⟨_,h4⟩ | ⟨g,cap,cur,h4,_⟩
  ·omega
  ·cases h4
 | some pa=>
  have hl:(R.flatMap docCells).length=P.length * 2:=by rw [doc_len,h1]
  have c0:=own_cellN h2 (k:=P.length * 2) (u:=.int .i64 x.1) (by rw [List.getElem?_append_right (by omega),hl,Nat.sub_self];rfl)
  have c1:=own_cellN h2 (k:=P.length * 2+1) (u:=vs) (by rw [List.getElem?_append_right (by omega),hl,Nat.add_sub_cancel_left];rfl)
  have f1:=own_frozen h2 (P.length * 2+1)
  rw [add_pos' _ _ _ (by omega)] at c1 f1
  exact ⟨pa,c,rfl,c0,c1,f1⟩
theorem PostB.spot {w1:World} {pa:Addr} {n c:Nat} {s:Int×Int} (h:PostB w base (.slice (some pa) n c) vs P x) (hg:w.grownBy w1 vs.ownBlock) (ho:w1.ownsRow base 64 2 vs' (x.2.length+1) (x.2.flatMap twoCells++twoCells s))
  (hl:vs'.ownBlock=vs.ownBlock∨vs'.ownBlock=some w.heap.size) (hs:fits64 s.1∧fits64 s.2):
  w1.cell? ⟨(pa.add (P.length * 2)).block,(pa.add (P.length * 2)).off+1,none⟩=some vs∧w1.frozen? ⟨(pa.add (P.length * 2)).block,(pa.add (P.length * 2)).off+1,none⟩=false∧base≤(pa.add (P.length * 2)).block∧
  PostB (w1.setCell ⟨(pa.add (P.length * 2)).block,(pa.add (P.length * 2)).off+1,none⟩ vs') base (.slice (some pa) n c) vs' P (x.1,x.2++[s]):=by
 have hap:=h.apart
 obtain ⟨R,h1,h2,h3⟩:=h.row
 have hpb:(pa.add (P.length * 2)).block=pa.block:=by unfold Addr.add;split <;> rfl
 have hvb:(Value.slice (some pa) n c).ownBlock=some pa.block:=rfl
 have hlt:=h2.lt pa.block hvb
 have hl2:(R.flatMap docCells).length=P.length * 2:=by rw [doc_len,h1]
 have hr1:w1.ownsRow base 62 2 (.slice (some pa) n c) (P.length+1) (R.flatMap docCells++docCells (x.1,vs)):=h2.kept hg (.inr (fun e=>hap pa.block (by rw [← e,hvb]) hvb))
 have c1:=own_cellN hr1 (k:=P.length * 2+1) (u:=vs) (by rw [List.getElem?_append_right (by omega),hl2,Nat.add_sub_cancel_left];rfl)
 have f1:=own_frozen hr1 (P.length * 2+1)
 have hs1:=own_setN hr1 (P.length * 2+1) vs'
 have hne:∀ g,vs'.ownBlock=some g→g≠pa.block:=fun g hgv e=>by
  subst e
  exact own_row_ne ho hr1 posts_spots_ne pa.block hgv hvb
 have hset:(R.flatMap docCells++docCells (x.1,vs)).set (P.length * 2+1) vs'=R.flatMap docCells++docCells (x.1,vs'):=by
  rw [List.set_append_right _ _ (by omega),hl2,Nat.add_sub_cancel_left]
  rfl
 rw [hset] at hs1
 rw [add_pos' _ _ _ (by omega)] at c1 f1 hs1
 refine ⟨c1,f1,by rw [hpb];exact hlt.1,⟨⟨h.fit.1,fun y hy=>?_⟩,?_,R,h1,hs1,fun i p y e1 e2=>?_⟩⟩
 ·rcases List.mem_append.1 hy with hy | hy
  ·exact h.fit.2 y hy
  ·rw [List.mem_singleton.1 hy];exact hs
 ·rw [List.length_append,List.flatMap_append,List.flatMap_singleton]
  exact ownsRow_block ho fun g hgv=>heap_setCell_other _ _ _ (by rw [hpb];exact hne g hgv)
 ·refine (h3 i p y e1 e2).mono (fun j hj hf=>⟨?_,hf.1,hf.2.1,?_⟩) (by rw [size_setCell'];exact hg.size)
  ·refine (heap_setCell_other _ _ _ ?_).trans (hg.block j hj (fun e=>hf.2.2 e.symm))
   rw [hpb]
   intro e
   exact hf.2.1 (by rw [hvb,e])
  ·rcases hl with e | e
   ·rw [e];exact hf.2.2
   ·rw [e]
    intro e2
    have:=Option.some.inj e2
    omega
end
theorem PostB.atV {w:World} {base:Nat} {vs:Value} {P:List Pst} {x:Pst} {pl:Addr} {N c:Nat} (h:PostB w base (.slice (some pl) N c) vs P x):N=P.length+1∧w.cell? (pl.add (P.length * 2))=some (.int .i64 x.1)∧w.cell? ⟨(pl.add (P.length * 2)).block,(pl.add (P.length * 2)).off+1,none⟩=some vs:=by
 obtain ⟨pa,c',e,h1,h2,h3⟩:=h.at
 simp only [Value.slice.injEq,Option.some.injEq] at e
 obtain ⟨rfl,rfl,rfl⟩:=e
 exact ⟨rfl,h1,h2⟩
theorem m0Posts_any {w:World} {F:Nat→Prop} {b:Nat} {L:List MDoc} (h:M0 w F b L) (hW:MWF L) (hT:totT L≤20000) (t:Int) (ht:fits64 t):Calls Tryz.prog 37 #[.pointer (some ⟨b,0,none⟩),.int .i64 t] w (PostsBack w (mPosts L t)):=by
 obtain ⟨i1,hi1,hy0,hy1,hy2⟩:=info_parts spotInfo
 obtain ⟨i2,hi2,hx0,hx1,hx2⟩:=info_parts postInfo
 obtain ⟨hFb,hFlt,mb,hB,hP⟩:=h
 obtain ⟨v,hrun,hov,-,-⟩:=hP.step (by unfold maxLen;omega) ht
 obtain ⟨A0,c0',rfl⟩:=own_slice hov
 have c0:=hB.cell 0
 simp only [lz0,lz1] at c0
 have hlen:=plOf_len L t
 have HFIT:=Lib.hid (fun p hp=>plOf_fit hW (t:=t) (p:=p) hp)
 have HPO:=Lib.hid (grp_posts hW t)
 obtain ⟨ps,hps⟩:∃ ps,ps=plOf L t:=⟨_,rfl⟩
 rw [← hps] at hov hlen HFIT HPO hrun
 have HOV:=Lib.hid hov
 obtain ⟨n,hn⟩:∃ n,n=ps.length:=⟨_,rfl⟩
 have hn2:n≤20000:=by omega
 rw [← hn] at hrun HOV
 have HN:=Lib.hid hn
 have HSM:=Lib.hid (fun k (hk:k≤n)=>grp_small ps k (by rw [← HN.out];exact hk))
 clear hFb hFlt hP hB hov hps hn hlen hW
 go_enter Tryz.func37,Tryz.ntmps37
 go_wp2
 clear hrun c0
 go_loopw [5,16] (fun v iv wr=>∃ i:Nat,i≤n∧iv=.int .i64 i∧Below w.heap.size w wr∧((i=0∧v=.slice none 0 0)∨∃ P x vs,grpUp (ps.take i)=P++[x]∧PostB wr w.heap.size v vs P x)) (fun _ iv _=>n - (Go.RowKit.intOf iv).toNat)
 case atStart=>exact ⟨0,by omega,rfl,Below.refl _ _,.inl ⟨rfl,rfl⟩⟩
 case round=>
  obtain ⟨i,hi,rfl,hb,hst⟩:=hrel
  have HBW:=Lib.hid hb
  have HST:=Lib.hid hst
  have HSMI:=Lib.hid (HSM.out i hi)
  clear hb hst
  rcases Nat.lt_or_ge i n with hlt | hge
  ·have d1:decide ((i:Int) < (n:Int))=true:=by simpa using hlt
   have p0:(0:Int)≤(i:Int):=by omega
   have p1:(i:Int) < (n:Int):=by omega
   have hw5:IntKind.i64.wrap ((i:Int)+1)=(i:Int)+1:=IntWalk.i64_in _ (by omega)
   obtain ⟨pa,p,rfl,hp,a0,a1,a2⟩:=HOV.out.at i (by rw [← HN.out];exact hlt)
   have HPF:=Lib.hid (HFIT.out p (List.mem_of_getElem? hp))
   have HNX:=Lib.hid (grpUp_next hp)
   obtain ⟨pd,pp,pz⟩:=p
   simp only at a0 a1 a2 HPF
   have b0:=below_cells HBW.out a0
   have b1:=below_cells HBW.out a1
   have b2:=below_cells HBW.out a2
   clear a0 a1 a2 hp
   have HO:Hid (PostsO wr w.heap.size u5 (grpUp (ps.take i))):=Lib.hid (by
    rcases HST.out with ⟨rfl,rfl⟩ | ⟨P,x,vs,hg,hPB⟩
    ·exact PostsO.nil _ _
    ·rw [hg]
     exact hPB.posts (by have:=HSMI.out.2 x (by rw [hg];simp);unfold maxLen;omega))
   have hv5:∃ N Av cv,u5=.slice Av N cv∧N=(grpUp (ps.take i)).length:=by
    obtain ⟨R,_,h1,_⟩:=HO.out
    obtain ⟨A,c,rfl⟩:=own_slice h1
    exact ⟨_,A,c,rfl,rfl⟩
   obtain ⟨N,Av,cv,rfl,hNl⟩:=hv5
   have hN2:N≤20000:=by have:=HSMI.out.1;omega
   have HNL:=Lib.hid hNl
   obtain ⟨tb,htb⟩:∃ tb:Bool,(tb=true∧(i=0∨∃ P x,grpUp (ps.take i)=P++[x]∧x.1≠pd))∨(tb=false∧∃ P x,grpUp (ps.take i)=P++[x]∧x.1=pd):=by
    rcases HST.out with ⟨h0,_⟩ | ⟨P,x,vs,hg,_⟩
    ·exact ⟨true,.inl ⟨rfl,.inl h0⟩⟩
    ·by_cases h:x.1=pd
     ·exact ⟨false,.inr ⟨rfl,P,x,hg,h⟩⟩
     ·exact ⟨true,.inl ⟨rfl,.inr ⟨P,x,hg,h⟩⟩⟩
   have HTB:=Lib.hid htb
   obtain ⟨wo,hwo⟩:∃ z,z=wr:=⟨_,rfl⟩
   subst hwo
   obtain ⟨pb,hpb⟩:∃ z,z=wo.heap.size:=⟨_,rfl⟩
   obtain ⟨W1,hW1⟩:∃ z,z=wo.alloc (.cells #[.int .i64 pd,.int .i64 pp,.int .i64 pz] 165):=⟨_,rfl⟩
   have hb0:Below wo.heap.size wo W1:=by rw [hW1];exact (Below.refl _ wo).alloc (Nat.le_refl _) _
   have HB0:=Lib.hid hb0
   have hbl1:Blk W1 pb 165 #[.int .i64 pd,.int .i64 pp,.int .i64 pz]:=by rw [hW1,hpb];exact Blk.new _ _ _
   have HBL:=Lib.hid hbl1
   have HBW1:=Lib.hid (below_then HBW.out hb0 HBW.out.size)
   have HPBS:Hid (w.heap.size≤pb):=Lib.hid (by rw [hpb];exact HBW.out.size)
   have HPB:=Lib.hid hpb
   have HW1:=Lib.hid hW1
   clear hNl htb hb0 hbl1 hpb hW1
   go_upto_region 5 with fail
   rw [← HW1.out,← HPB.out]
   clear b0 b1 b2
   go_cut [34] (fun v wx=>v=.bool tb∧∃ q,wx=W1.drewN q)
   case first=>
    rcases HST.out with ⟨h0,hv⟩ | ⟨P,x,vs,hg,hPB⟩
    ·simp only [Value.slice.injEq] at hv
     obtain ⟨rfl,rfl,rfl⟩:=hv
     have htt:tb=true:=by
      rcases HTB.out with ⟨h,_⟩ | ⟨_,P,x,hg,_⟩
      ·exact h
      ·rw [h0] at hg;simp [grpUp] at hg
     subst htt
     have H0:=Lib.hid h0
     clear h0
     have d0:(((0:Nat):Int)==0)=true:=rfl
     have d0':((0:Int)==0)=true:=rfl
     go_quiet (fail)
     go_wp2_with fail
     go_meet
     case rel=>exact ⟨rfl,_,rfl⟩
    ·obtain ⟨m,hm⟩:∃ m,m=P.length:=⟨_,rfl⟩
     have hNm:N=m+1:=by rw [HNL.out,hg,hm];simp
     obtain ⟨pl,cl,hv,e0,-,-⟩:=(hPB.below HB0.out).at
     simp only [Value.slice.injEq] at hv
     obtain ⟨rfl,-,rfl⟩:=hv
     rw [← hm] at e0
     have htt:(x.1 != pd)=tb:=by
      rcases HTB.out with ⟨h,h2 | ⟨P',x',hg',h2⟩⟩ | ⟨h,P',x',hg',h2⟩
      ·rw [h2] at hg;simp [grpUp] at hg
      ·rw [hg] at hg'
       obtain ⟨rfl,hx⟩:=List.append_inj' hg' rfl
       simp only [List.cons.injEq,and_true] at hx
       rw [h,hx];simpa using h2
      ·rw [hg] at hg'
       obtain ⟨rfl,hx⟩:=List.append_inj' hg' rfl
       simp only [List.cons.injEq,and_true] at hx
       rw [h,hx];simpa using h2
     obtain ⟨x1,hx1⟩:∃ x1,x1=x.1:=⟨_,rfl⟩
     rw [← hx1] at e0 htt
     have d0:((N:Int)==0)=false:=by simp;omega
     have hsub:IntKind.i64.wrap ((N:Int) - 1)=(m:Int):=by rw [IntWalk.i64_in _ (by omega)];omega
     have q0:(0:Int)≤(m:Int):=by omega
     have q1:(m:Int) < (N:Int):=by omega
     have e0w:∀ k,(W1.drewN k).cell? (pl.add (m * 2))=some (.int .i64 x1):=fun k=>e0
     have pbw:∀ k,(W1.drewN k).cell? ⟨pb,0,none⟩=some (.int .i64 pd):=fun k=>HBL.out.cell 0
     clear hm hNm hx1 e0 hPB hg
     go_quiet (fail)
     go_wp2_with fail
     go_meet
     case rel=>exact ⟨rfl,_,rfl⟩
   case rest=>
    obtain ⟨rfl,qx,hwx⟩:=hcut
    obtain ⟨W2,hW2⟩:∃ z,z=wc:=⟨_,rfl⟩
    have hbq:Below wo.heap.size wo W2:=by rw [hW2,hwx];exact below_drewN HB0.out _
    have HBQ:=Lib.hid hbq
    have HBL2:=Lib.hid (show Blk W2 pb 165 #[.int .i64 pd,.int .i64 pp,.int .i64 pz] from by rw [hW2,hwx];exact HBL.out.drewN _)
    have HBW2:=Lib.hid (below_then HBW.out hbq HBW.out.size)
    rw [← hW2]
    clear hwx hW2 hbq
    go_upto_if 34 with fail
    go_cut [5] (fun v wx=>∃ (P:List Pst) (x:Pst) (vs:Value),PostB wx w.heap.size v vs P x∧x.1=pd∧grpUp (ps.take (i+1))=P++[(x.1,x.2++[(pp,pz)])]∧P.length≤20000∧x.2.length≤20000∧Below w.heap.size w wx∧Blk wx pb 165 #[.int .i64 pd,.int .i64 pp,.int .i64 pz])
    case first=>
     cases tb with
     | true=>
      have c0:=HBL2.out.cell 0
      simp only [lz0,lz1] at c0
      obtain ⟨R,hR0,hR1,hR2⟩:=HO.out
      rw [← HNL.out] at hR1
      have HR0:=Lib.hid hR0
      have HR2:=Lib.hid hR2
      have hR3:W2.ownsRow w.heap.size 62 2 (.slice Av N cv) N (R.flatMap docCells):=ownsRow_block hR1 fun g hg=>HBQ.out.block g (hR1.lt g hg).2
      have HR3:=Lib.hid hR3
      have hsz:=HBQ.out.size
      clear hR0 hR1 hR2 hR3
      go_wp2_with (at_builtin;refine wpList_append_own_at _ rfl (.tmp 35) (.tmp 39) 56 rfl w.heap.size 62 i2 _ 2 32 Tryz.underlying56 hi2 hx0 hx1 hx2 rfl (by decide) _ N _ rfl (World.ownsRow.alloc HR3.out _) ⟨W2.heap.size,0,none⟩ 1 1 (docCells (pd,.slice none 0 0)) rfl rfl (doc_src (p:=(pd,.slice none 0 0)) (Blk.new W2 62 #[.int .i64 pd,.slice none 0 0])) (doc_one _ _ _ _) (by unfold maxLen;omega) (by omega) (by simp;have:=HBW2.out.size;omega) ?_;intro v3 w3 hown hgrow _ hloc;have HOWN:=Lib.hid hown;have HGRW:=Lib.hid hgrow;have HLOC:=Lib.hid hloc;clear hown hgrow hloc)
      go_meet
      case rel=>
       have hal:Below W2.heap.size W2 (W2.alloc (.cells #[.int .i64 pd,.slice none 0 0] 62)):=(Below.refl _ W2).alloc (Nat.le_refl _) _
       have hR2':=fun i p y e1 e2=>(HR2.out i p y e1 e2).mono (w':=W2.alloc (.cells #[.int .i64 pd,.slice none 0 0] 62)) (g:=fun i=>w.heap.size≤i∧Value.ownBlock (.slice Av N cv)≠some i) (fun j hj hf=>⟨(hal.block j (Nat.lt_of_lt_of_le hj hsz)).trans (HBQ.out.block j hj),hf⟩) (Nat.le_trans hsz hal.size)
       have hown:=HOWN.out
       rw [HNL.out] at hown
       have hf:=HPF.out
       have hnew:=PostB.of_push (d:=pd) (by unfold fits64;omega) HR0.out hR2' hown HGRW.out HLOC.out
       refine ⟨_,_,_,hnew,rfl,?_,by rw [← HNL.out];exact hN2,by simp,?_,?_⟩
       ·rw [HNX.out]
        rcases HTB.out with ⟨_,h0 | ⟨P,x,hg,hne⟩⟩ | ⟨h,_⟩
        ·subst h0
         rfl
        ·rw [hg,grp1_other hne]
         rfl
        ·cases h
       ·exact (below_then HBW2.out hal HBW2.out.size).grown HGRW.out (by have:=HBW2.out.size;simp;omega) (fun g hg=>(HR3.out.lt g hg).1)
       ·refine ((HBL2.out.below hal HBL2.out.lt).grown HGRW.out fun e=>?_)
        exact own_blk_ne HR3.out HBL2.out (by decide) e.symm
     | false=>
      go_wp2_with fail
      go_meet
      case rel=>
       rcases HTB.out with ⟨h,_⟩ | ⟨_,P,x,hg,hx⟩
       ·cases h
       ·rcases HST.out with ⟨h0,_⟩ | ⟨P',x',vs,hg',hPB⟩
        ·rw [h0] at hg;simp [grpUp] at hg
        ·rw [hg] at hg'
         obtain ⟨rfl,hxx⟩:=List.append_inj' hg' rfl
         simp only [List.cons.injEq,and_true] at hxx
         subst hxx
         refine ⟨P,x,vs,hPB.below HBQ.out,hx,?_,?_,?_,HBW2.out,HBL2.out⟩
         ·rw [HNX.out,hg,grp1_same hx]
         ·have:=HSMI.out.1
          rw [hg,List.length_append] at this
          omega
         ·have:=HSMI.out.2 x (by rw [hg];simp)
          omega
    case rest=>
     obtain ⟨P,x,vs,hPB,hxd,hgn,hPl,hxl,hBc,hblc⟩:=hcut
     obtain ⟨Avs,cvs,hvs⟩:=own_slice hPB.spots
     subst hvs
     obtain ⟨pl,cl,hv,hcc0,-,-⟩:=hPB.at
     subst hv
     obtain ⟨wd,hwc⟩:∃ z,z=wc:=⟨_,rfl⟩
     have HPN:Hid (pb≠(pl.add (P.length * 2)).block):=Lib.hid (fun e=>by
      obtain ⟨R,hR1,hR2,hR3⟩:=hPB.row
      refine own_blk_ne hR2 hblc (by decide) ?_
      rw [e]
      have:(pl.add (P.length * 2)).block=pl.block:=by unfold Addr.add;split <;> rfl
      rw [this]
      rfl)
     have HPV:Hid (∀ g,Value.ownBlock (.slice Avs x.2.length cvs)=some g→w.heap.size≤g∧g≠pb):=Lib.hid (fun g hg=>⟨(hPB.spots.lt g hg).1,fun e=>own_blk_ne hPB.spots hblc (by decide) (by rw [hg,e])⟩)
     have HGN:=Lib.hid hgn
     have HXD:=Lib.hid hxd
     rw [← hwc] at hPB hBc hblc ⊢
     have HP1:=Lib.hid hPB
     have HW1':=Lib.hid hBc
     have HN1:=Lib.hid hblc
     obtain ⟨m,hm⟩:∃ m,m=P.length:=⟨_,rfl⟩
     obtain ⟨N2,hN2⟩:∃ N2,N2=P.length+1:=⟨_,rfl⟩
     have HM:=Lib.hid hm
     have HN2:=Lib.hid hN2
     have hsub:IntKind.i64.wrap ((N2:Int) - 1)=(m:Int):=by rw [IntWalk.i64_in _ (by omega)];omega
     have q0:(0:Int)≤(m:Int):=by omega
     have q1:(m:Int) < (N2:Int):=by omega
     rw [← hm] at HPN hPl
     rw [← hN2] at HP1 ⊢
     obtain ⟨sl,hsl⟩:∃ sl,sl=x.2.length:=⟨_,rfl⟩
     have HSL:=Lib.hid hsl
     rw [← hsl] at HP1 hxl HPV
     clear hPB hBc hblc hgn hxd hwc hm hN2 hcc0 hsl
     go_upto_region 8 with fail
     refine wp_region_held_drew (S:=fun w'=>w'.cell? ⟨pb,1,none⟩=some (.int .i64 pp)∧w'.cell? ⟨pb,2,none⟩=some (.int .i64 pz)) (by kernel_rfl) ⟨HN1.out.cell 1,HN1.out.cell 2⟩ (fun hHeld=>?_)
     obtain ⟨u0,hu0⟩:∃ z,z=wd.drew:=⟨_,rfl⟩
     rw [← hu0] at hHeld ⊢
     have HP2:=Lib.hid (show PostB u0 w.heap.size (.slice (some pl) N2 cl) (.slice Avs sl cvs) P x from by rw [hu0];exact HP1.out.below (below_drewN (Below.refl _ wd) 1))
     have HW2':=Lib.hid (show Below w.heap.size w u0 from by rw [hu0];exact HW1'.out.drew)
     have HN2':=Lib.hid (show Blk u0 pb _ _ from by rw [hu0];exact HN1.out.drew)
     have hS0:(fun w':World=>w'.cell? ⟨pb,1,none⟩=some (.int .i64 pp)∧w'.cell? ⟨pb,2,none⟩=some (.int .i64 pz)) u0:=⟨HN2'.out.cell 1,HN2'.out.cell 2⟩
     clear hu0
     refine wpAnyH_take (i:=0) (oi:=?oiz10) (v:=?vz10) ?hiz10 (by kernel_rfl) (by kernel_rfl) (by kernel_rfl) ?hQz10 (Or.inl ⟨?hwz10,?hyz10⟩) (by assumption) ?restz10
     case hiz10=>(first | (simp only [lz0,lz1,lz2];rfl) | rfl)
     case hQz10=>exact fun _ _ _ h=>h
     case hwz10=>rfl
     case hyz10=>((intro w hSw;go_simp);first | done | with_reducible rfl)
     try simp only [Act.put,lz3,lz4,lz5]
     refine wpAnyH_take (i:=1) (oi:=?oiz21) (v:=?vz21) ?hiz21 (by kernel_rfl) (by kernel_rfl) (by kernel_rfl) ?hQz21 (Or.inl ⟨?hwz21,?hyz21⟩) (by assumption) ?restz21
     case hiz21=>(first | (simp only [lz0,lz1,lz2];rfl) | rfl)
     case hQz21=>exact fun _ _ _ h=>h
     case hwz21=>rfl
     case hyz21=>((intro w hSw;go_simp);first | done | with_reducible rfl)
     try simp only [Act.put,lz3,lz4,lz5]
     refine wpAnyH_take (i:=5) (oi:=?oiz35) (v:=?vz35) ?hiz35 (by kernel_rfl) (by kernel_rfl) (by kernel_rfl) ?hQz35 (Or.inl ⟨?hwz35,?hyz35⟩) (by assumption) ?restz35
     case hiz35=>(first | (simp only [lz0,lz1,lz2];rfl) | rfl)
     case hQz35=>exact fun _ _ _ h=>h
     case hwz35=>rfl
     case hyz35=>((intro w hSw;go_simp);first | done | with_reducible rfl)
     try simp only [Act.put,lz3,lz4,lz5]
     refine wpAnyH_take (i:=2) (oi:=?oiz42) (v:=?vz42) ?hiz42 (by kernel_rfl) (by kernel_rfl) (by kernel_rfl) ?hQz42 (Or.inl ⟨?hwz42,?hyz42⟩) (by assumption) ?restz42
     case hiz42=>(first | (simp only [lz0,lz1,lz2];rfl) | rfl)
     case hQz42=>exact fun _ _ _ h=>h
     case hwz42=>rfl
     case hyz42=>((intro w hSw;go_simp);first | done | with_reducible rfl)
     try simp only [Act.put,lz3,lz4,lz5]
     refine wpAnyH_take (i:=6) (oi:=?oiz56) (v:=?vz56) ?hiz56 (by kernel_rfl) (by kernel_rfl) (by kernel_rfl) ?hQz56 (Or.inl ⟨?hwz56,?hyz56⟩) (by assumption) ?restz56
     case hiz56=>(first | (simp only [lz0,lz1,lz2];rfl) | rfl)
     case hQz56=>exact fun _ _ _ h=>h
     case hwz56=>rfl
     case hyz56=>((intro w hSw;go_simp);first | done | with_reducible rfl)
     try simp only [Act.put,lz3,lz4,lz5]
     refine wpAnyH_take (i:=3) (oi:=?oiz63) (v:=?vz63) ?hiz63 (by kernel_rfl) (by kernel_rfl) (by kernel_rfl) ?hQz63 (Or.inl ⟨?hwz63,?hyz63⟩) (by assumption) ?restz63
     case hiz63=>(first | (simp only [lz0,lz1,lz2];rfl) | rfl)
     case hQz63=>exact fun _ _ _ h=>h
     case hwz63=>rfl
     case hyz63=>((intro w hSw;go_simp);first | done | with_reducible rfl)
     try simp only [Act.put,lz3,lz4,lz5]
     refine wpAnyH_ready (rs:=[4,7]) (by kernel_rfl) (by simp) ?_
     refine AllReadyH.cons (o:=?oz7) ?hz7 ?sz7 (AllReadyH.cons (o:=?oz8) ?hz8 ?sz8 AllReadyH.nil)
     case hz7=>(simp only [lz0,lz1,lz2];rfl)
     case hz8=>(simp only [lz0,lz1,lz2];rfl)
     case sz7=>
      intro K hK
      obtain ⟨-,-,yq1⟩:=HP2.out.atV
      rw [← HM.out] at yq1
      go_simp
      clear yq1
      refine hK.out _ _ ⟨HN2'.out.cell 1,HN2'.out.cell 2⟩ (fun hz9=>?_)
      clear hK K
      try simp only [Act.put,lz3,lz4,lz5]
      refine wpAnyH_ready (rs:=[7]) (by kernel_rfl) (by simp) ?_
      refine AllReadyH.cons (o:=?oz10) ?hz10 ?sz10 AllReadyH.nil
      case hz10=>(simp only [lz0,lz1,lz2];rfl)
      case sz10=>
       intro K hK
       go_simp
       obtain ⟨uq2,huq3⟩:∃ zz,zz=u0.alloc (.cells #[.int .i64 pp,.int .i64 pz] 64):=⟨_,rfl⟩
       have Mq7:Hid (Blk uq2 u0.heap.size 64 #[.int .i64 pp,.int .i64 pz]):=Lib.hid (by rw [huq3];exact Blk.new _ _ _)
       rw [← huq3]
       have hNq4:Below u0.heap.size u0 uq2:=by rw [huq3];exact (Below.refl _ u0).alloc (Nat.le_refl _) _
       have Nq4:=Lib.hid (HN2'.out.below hNq4 HN2'.out.lt)
       have Pq6:=Lib.hid (HP2.out.below hNq4)
       have Wq5:=Lib.hid (below_then HW2'.out hNq4 HW2'.out.size)
       clear huq3 hNq4
       refine hK.out _ _ ⟨Nq4.out.cell 1,Nq4.out.cell 2⟩ (fun hz11=>?_)
       clear hK K
       try simp only [Act.put,lz3,lz4,lz5]
       refine wpAnyH_ready (rs:=[8]) (by kernel_rfl) (by simp) ?_
       refine AllReadyH.cons (o:=?oz12) ?hz12 ?sz12 AllReadyH.nil
       case hz12=>(simp only [lz0,lz1,lz2];rfl)
       case sz12=>
        intro K hK
        refine step_append_recK _ rfl (.tmp 50) (.tmp 53) 60 rfl w.heap.size 64 i1 _ 2 16 Tryz.underlying60 hi1 hy0 hy1 hy2 rfl (by decide) _ sl _ rfl (by have h1:=Pq6.out.spots;rw [← HSL.out] at h1;exact h1) ⟨u0.heap.size,0,none⟩ 1 1 (twoCells (pp,pz)) rfl rfl (doc_src (p:=(pp,.int .i64 pz)) Mq7.out) (two_one _) (by unfold maxLen;omega) (by omega) Wq5.out.size ?_
        intro vq12 uq8 hwq9 hgq10 hlq11
        obtain ⟨Avq12,cvq12,rfl⟩:=own_slice hwq9
        have Nq13:=Lib.hid (Nq4.out.grown hgq10 (fun e=>(HPV.out pb e.symm).2 rfl))
        have Wq14:=Lib.hid (Wq5.out.grown hgq10 Wq5.out.size (fun g hg=>(HPV.out g hg).1))
        have Hhwq9:=Lib.hid hwq9
        have Hhgq10:=Lib.hid hgq10
        have Hhlq11:=Lib.hid hlq11
        clear hwq9 hgq10 hlq11
        refine hK.out _ _ ⟨Nq13.out.cell 1,Nq13.out.cell 2⟩ (fun hz13=>?_)
        clear hK K
        try simp only [Act.put,lz3,lz4,lz5]
        refine wpAnyH_take (i:=9) (oi:=?oiz149) (v:=?vz149) ?hiz149 (by kernel_rfl) (by kernel_rfl) (by kernel_rfl) ?hQz149 (Or.inl ⟨?hwz149,?hyz149⟩) (by assumption) ?restz149
        case hiz149=>(first | (simp only [lz0,lz1,lz2];rfl) | rfl)
        case hQz149=>exact fun _ _ _ h=>h
        case hwz149=>rfl
        case hyz149=>((intro w hSw;go_simp);first | done | with_reducible rfl)
        try simp only [Act.put,lz3,lz4,lz5]
        refine wpAnyH_take (i:=10) (oi:=?oiz1510) (v:=?vz1510) ?hiz1510 (by kernel_rfl) (by kernel_rfl) (by kernel_rfl) ?hQz1510 (Or.inl ⟨?hwz1510,?hyz1510⟩) (by assumption) ?restz1510
        case hiz1510=>(first | (simp only [lz0,lz1,lz2];rfl) | rfl)
        case hQz1510=>exact fun _ _ _ h=>h
        case hwz1510=>rfl
        case hyz1510=>((intro w hSw;go_simp);first | done | with_reducible rfl)
        try simp only [Act.put,lz3,lz4,lz5]
        refine wpAnyH_ready (rs:=[11]) (by kernel_rfl) (by simp) ?_
        refine AllReadyH.cons (o:=?oz16) ?hz16 ?sz16 AllReadyH.nil
        case hz16=>(simp only [lz0,lz1,lz2];rfl)
        case sz16=>
         intro K hK
         obtain ⟨kq15,fzq16,hbq17,hpq18⟩:=PostB.spot (s:=(pp,pz)) Pq6.out Hhgq10.out (by rw [← HSL.out];exact Hhwq9.out) Hhlq11.out (by have h1:=HPF.out;exact ⟨by unfold fits64;omega,by unfold fits64;omega⟩)
         rw [← HM.out] at kq15 fzq16 hbq17 hpq18
         go_simp
         clear kq15 fzq16
         have Nq19:=Lib.hid (Nq13.out.far (p:=⟨(pl.add (m * 2)).block,(pl.add (m * 2)).off+1,none⟩) HPN.out (.slice Avq12 (sl+1) cvq12))
         have Wq20:=Lib.hid (Wq14.out.setCell (p:=⟨(pl.add (m * 2)).block,(pl.add (m * 2)).off+1,none⟩) hbq17 (.slice Avq12 (sl+1) cvq12))
         have Pq21:=Lib.hid hpq18
         clear hbq17 hpq18
         refine hK.out _ _ ⟨Nq19.out.cell 1,Nq19.out.cell 2⟩ (fun hz17=>?_)
         clear hK K
         try simp only [Act.put,lz3,lz4,lz5]
         refine wpAnyH_done (by kernel_rfl) ?_ _
         go_wp2
         go_roundw
         case rel=>exact ⟨i+1,by omega,by go_num,Wq20.out,.inr ⟨P,_,_,HGN.out,Pq21.out⟩⟩
         case measure=>simp [Go.RowKit.intOf];omega
     case sz8=>
      intro K hK
      go_simp
      obtain ⟨uq22,huq23⟩:∃ zz,zz=u0.alloc (.cells #[.int .i64 pp,.int .i64 pz] 64):=⟨_,rfl⟩
      have Mq27:Hid (Blk uq22 u0.heap.size 64 #[.int .i64 pp,.int .i64 pz]):=Lib.hid (by rw [huq23];exact Blk.new _ _ _)
      rw [← huq23]
      have hNq24:Below u0.heap.size u0 uq22:=by rw [huq23];exact (Below.refl _ u0).alloc (Nat.le_refl _) _
      have Nq24:=Lib.hid (HN2'.out.below hNq24 HN2'.out.lt)
      have Pq26:=Lib.hid (HP2.out.below hNq24)
      have Wq25:=Lib.hid (below_then HW2'.out hNq24 HW2'.out.size)
      clear huq23 hNq24
      refine hK.out _ _ ⟨Nq24.out.cell 1,Nq24.out.cell 2⟩ (fun hz18=>?_)
      clear hK K
      try simp only [Act.put,lz3,lz4,lz5]
      refine wpAnyH_ready (rs:=[4]) (by kernel_rfl) (by simp) ?_
      refine AllReadyH.cons (o:=?oz19) ?hz19 ?sz19 AllReadyH.nil
      case hz19=>(simp only [lz0,lz1,lz2];rfl)
      case sz19=>
       intro K hK
       obtain ⟨-,-,yq28⟩:=Pq26.out.atV
       rw [← HM.out] at yq28
       go_simp
       clear yq28
       refine hK.out _ _ ⟨Nq24.out.cell 1,Nq24.out.cell 2⟩ (fun hz20=>?_)
       clear hK K
       try simp only [Act.put,lz3,lz4,lz5]
       refine wpAnyH_ready (rs:=[8]) (by kernel_rfl) (by simp) ?_
       refine AllReadyH.cons (o:=?oz21) ?hz21 ?sz21 AllReadyH.nil
       case hz21=>(simp only [lz0,lz1,lz2];rfl)
       case sz21=>
        intro K hK
        refine step_append_recK _ rfl (.tmp 50) (.tmp 53) 60 rfl w.heap.size 64 i1 _ 2 16 Tryz.underlying60 hi1 hy0 hy1 hy2 rfl (by decide) _ sl _ rfl (by have h1:=Pq26.out.spots;rw [← HSL.out] at h1;exact h1) ⟨u0.heap.size,0,none⟩ 1 1 (twoCells (pp,pz)) rfl rfl (doc_src (p:=(pp,.int .i64 pz)) Mq27.out) (two_one _) (by unfold maxLen;omega) (by omega) Wq25.out.size ?_
        intro vq33 uq29 hwq30 hgq31 hlq32
        obtain ⟨Avq33,cvq33,rfl⟩:=own_slice hwq30
        have Nq34:=Lib.hid (Nq24.out.grown hgq31 (fun e=>(HPV.out pb e.symm).2 rfl))
        have Wq35:=Lib.hid (Wq25.out.grown hgq31 Wq25.out.size (fun g hg=>(HPV.out g hg).1))
        have Hhwq30:=Lib.hid hwq30
        have Hhgq31:=Lib.hid hgq31
        have Hhlq32:=Lib.hid hlq32
        clear hwq30 hgq31 hlq32
        refine hK.out _ _ ⟨Nq34.out.cell 1,Nq34.out.cell 2⟩ (fun hz22=>?_)
        clear hK K
        try simp only [Act.put,lz3,lz4,lz5]
        refine wpAnyH_take (i:=9) (oi:=?oiz239) (v:=?vz239) ?hiz239 (by kernel_rfl) (by kernel_rfl) (by kernel_rfl) ?hQz239 (Or.inl ⟨?hwz239,?hyz239⟩) (by assumption) ?restz239
        case hiz239=>(first | (simp only [lz0,lz1,lz2];rfl) | rfl)
        case hQz239=>exact fun _ _ _ h=>h
        case hwz239=>rfl
        case hyz239=>((intro w hSw;go_simp);first | done | with_reducible rfl)
        try simp only [Act.put,lz3,lz4,lz5]
        refine wpAnyH_take (i:=10) (oi:=?oiz2410) (v:=?vz2410) ?hiz2410 (by kernel_rfl) (by kernel_rfl) (by kernel_rfl) ?hQz2410 (Or.inl ⟨?hwz2410,?hyz2410⟩) (by assumption) ?restz2410
        case hiz2410=>(first | (simp only [lz0,lz1,lz2];rfl) | rfl)
        case hQz2410=>exact fun _ _ _ h=>h
        case hwz2410=>rfl
        case hyz2410=>((intro w hSw;go_simp);first | done | with_reducible rfl)
        try simp only [Act.put,lz3,lz4,lz5]
        refine wpAnyH_ready (rs:=[11]) (by kernel_rfl) (by simp) ?_
        refine AllReadyH.cons (o:=?oz25) ?hz25 ?sz25 AllReadyH.nil
        case hz25=>(simp only [lz0,lz1,lz2];rfl)
        case sz25=>
         intro K hK
         obtain ⟨kq36,fzq37,hbq38,hpq39⟩:=PostB.spot (s:=(pp,pz)) Pq26.out Hhgq31.out (by rw [← HSL.out];exact Hhwq30.out) Hhlq32.out (by have h1:=HPF.out;exact ⟨by unfold fits64;omega,by unfold fits64;omega⟩)
         rw [← HM.out] at kq36 fzq37 hbq38 hpq39
         go_simp
         clear kq36 fzq37
         have Nq40:=Lib.hid (Nq34.out.far (p:=⟨(pl.add (m * 2)).block,(pl.add (m * 2)).off+1,none⟩) HPN.out (.slice Avq33 (sl+1) cvq33))
         have Wq41:=Lib.hid (Wq35.out.setCell (p:=⟨(pl.add (m * 2)).block,(pl.add (m * 2)).off+1,none⟩) hbq38 (.slice Avq33 (sl+1) cvq33))
         have Pq42:=Lib.hid hpq39
         clear hbq38 hpq39
         refine hK.out _ _ ⟨Nq40.out.cell 1,Nq40.out.cell 2⟩ (fun hz26=>?_)
         clear hK K
         try simp only [Act.put,lz3,lz4,lz5]
         refine wpAnyH_done (by kernel_rfl) ?_ _
         go_wp2
         go_roundw
         case rel=>exact ⟨i+1,by omega,by go_num,Wq41.out,.inr ⟨P,_,_,HGN.out,Pq42.out⟩⟩
         case measure=>simp [Go.RowKit.intOf];omega
  ·obtain rfl:i=n:=by omega
   have hlz:¬ ((i:Int) < (i:Int)):=by omega
   have d1:decide ((i:Int) < (i:Int))=false:=by simp
   have HFN:Hid (grpUp (ps.take i)=mPosts L t):=Lib.hid (by rw [HN.out,List.take_length];exact HPO.out)
   have HO:Hid (PostsO wr w.heap.size u5 (mPosts L t)):=Lib.hid (by
    rw [← HFN.out]
    rcases HST.out with ⟨rfl,rfl⟩ | ⟨P,x,vs,hg,hPB⟩
    ·exact PostsO.nil _ _
    ·rw [hg]
     exact hPB.posts (by have:=HSMI.out.2 x (by rw [hg];simp);unfold maxLen;omega))
   have hML:(mPosts L t).length≤20000:=by have:=HSMI.out.1;rw [HFN.out] at this;omega
   clear HOV
   go_wp2
   go_ret
   obtain ⟨Ax,cx,hv,hc⟩:∃ A c,u5=.slice A (mPosts L t).length c∧(mPosts L t).length≤c:=by
    obtain ⟨R,_,h1,_⟩:=HO.out
    obtain ⟨A,c,rfl⟩:=own_slice h1
    exact ⟨A,c,rfl,rowCap_le h1⟩
   subst hv
   exact ⟨Ax,cx,rfl,HO.out.see rfl (by unfold maxLen;omega),hc,HBW.out⟩
end Go.Proofs.YthcjikpabpgpfaaGreat
