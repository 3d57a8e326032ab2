import Derived.Test.YthcjikpabpgpfaaGreatZp10
import Derived.Deep.RegionHeld3
import Derived.Deep.DeepCutAuto
import Derived.Test.YthcjikpabpgpfaaGreatZp9
import Derived.Test.YthcjikpabpgpfaaGreatZp12
import Derived.Shelf.Abstract
import Derived.Test.YthcjikpabpgpfaaGreatZp11
set_option linter.unusedSimpArgs false
set_option maxHeartbeats 16000000
set_option maxRecDepth 100000
namespace Go.Proofs.YthcjikpabpgpfaaGreat
section
open Go.RowKit Go.Maps Go.WideMaps
theorem Zzr:(Tryz.prog.info? 165).map (λi=>(i.zero,i.size,i.bytes))=some (some (.agg #[.int .i64 0,.int .i64 0,.int .i64 0]),3,24):=by kernel_rfl
def Zly (L:List MDoc) (x:MDoc) (k:Nat):Int->List Pl:=λt=>plOf L t++plUp x t k
theorem Zvs {L:List MDoc} {x:MDoc} {k:Nat} {y z:Int} (hy:x.T.getD k 0=y) (hz:x.S.getD k 0=z) (t:Int):Zly L x (k+1) t=Zi0 (Zly L x k) y (x.doc,(k:Int),z) t:=by
 unfold Zly Zi0;rw[Zp4,hy,hz];by_cases h:t=y
 ·rw[Yag h,Yag h.symm,Yao]
 ·rw[Yaf h,Yaf (λe=>h e.symm)]
theorem Zxc (L:List MDoc) (x:MDoc) (k:Nat) (t:Int):(Zly L x k t).length<=totT L+k:=by
 unfold Zly;rw[Yaq];have:=Ztf L t
 have:=Zsz x t k
 omega
theorem Zxm {w:World} {F:Nat->Prop} {b:Nat} {L:List MDoc} (h:M0 w F b L) (hW:MWF L) (hT:totT L<=20000) (x:MDoc) (A C:Option Addr) (n m c cc:Nat) (hTI:IntsIn w A n x.T) (hSI:IntsIn w C m x.S)
  (hAF:∀ ad,A=some ad->0<n->¬ F ad.block) (hCF:∀ ad,C=some ad->0<m->¬ F ad.block) (hd:Zaj x.doc):Calls Tryz.prog 75 #[.pointer (some ⟨b,0,none⟩),.int .i64 x.doc,.slice A n c,.slice C m cc] w (Qc0 M0 w F b L x):=by
 obtain⟨i0,hi,hz0,hz1,hz2⟩:=info_parts Zzr;have HM:=Zh h;obtain⟨hFb,hFlt,mb,hB,hP⟩:=h;have hlow:=Zzi hW;have hfew:=hW.few;have HERR:=Zh (Qde hW x);have HSP:=Zh (Zqq (c:=c) (d:=cc) hTI hSI);have htl:=hTI.len;have hsl:=hSI.len;rw[htl,hsl]at HERR;have HTL:=Zh htl;have HNO:Hid (∀ e:Int,mErr L x=e->e≠0->∀ q,Qc0 M0 w F b L x (.returned (.int .i64 e)) (w.drewN q)):=Zh (λe he h0 q=>by
  refine⟨by rw[he],F,?_,⟨rfl,rfl,rfl,Yar _,λ_ _ _=>rfl⟩,λi hi=>.inl hi⟩;have h1:mAdd L x=L:=by unfold mAdd;rw[Yaf (by rw[he];exact h0)]
  rw[h1];exact HM.out.keep (λ_ _=>rfl) (Yar _))
 have HTK:Hid (∀ wr,Kept F w wr->IntsIn wr A n x.T/\IntsIn wr C m x.S):=Zh (λwr hk=>
  ⟨⟨hTI.1,hTI.2.1.keep λad e h0=>hk.block _ (hTI.2.2.2 ad e h0) (hAF ad e h0),hTI.2.2.1,λad e h0=>Ya7 (hTI.2.2.2 ad e h0) hk.size⟩,
   ⟨hSI.1,hSI.2.1.keep λad e h0=>hk.block _ (hSI.2.2.2 ad e h0) (hCF ad e h0),hSI.2.2.1,λad e h0=>Ya7 (hSI.2.2.2 ad e h0) hk.size⟩⟩)
 have hn63:=hTI.1;have hm63:=hSI.1;unfold maxLen at hn63 hm63;have hdl:=hd.1;have hdh:=hd.2;have c1:=hB.cell 1;have c2:=hB.cell 2;simp only[lz0,lz1,lz2]at c1 c2;obtain⟨doc,hdoc⟩:=Ze x.doc;obtain⟨N,hN⟩:=Ze L.length;obtain⟨nx,hnx⟩:=Ze (Zjr L+1);have hbl:=hB.lt;have HB0:=Zh hB;have HP0:=Zh hP;have HFLT:=Zh hFlt;have HFB:=Zh hFb;have HDOC:=Zh hdoc;have HN:=Zh hN;have HNX:=Zh hnx;have HW:=Zh hW;rw[<- hdoc]at hdl hdh HERR ⊢;rw[<- hN]at hfew HERR c1 HB0;rw[<- hnx]at HERR c2 HB0;have hlow2:0<=nx/\nx<=4294967297:=by omega
 clear hlow;clear hTI hSI hAF hCF hd hP hFlt hFb hdoc hN hnx htl hsl hB hW;go_enter Tryz.func75,Tryz.ntmps75;have cross:∀ q,(w.drewN q).heap=w.heap:=λ_=>rfl;clear cross;by_cases hN4:N=4096
 ·have e1:((N:Int)==4096)=true:=by simp;omega
  go_wp2;go_ret;exact HNO.out 2 (by rw[HERR.out,Yag (.inl hN4)]) (by omega) 0
 ·have e1:((N:Int)==4096)=false:=by simp;omega
  by_cases hn4:4096<n
  ·have e2:decide ((4096:Int)<(n:Int))=true:=by simp;omega
   go_wp2;go_ret;exact HNO.out 2 (by rw[HERR.out,Yag (.inr hn4)]) (by omega) 0
  ·have e2:decide ((4096:Int)<(n:Int))=false:=by simp;omega
   have HE2:=Zh (show ¬ (N=4096\/4096<n) by omega);by_cases hdn:doc<nx
   ·have e3:decide (doc<nx)=true:=by simpa using hdn
    go_wp2;go_ret;exact HNO.out 1 (by rw[HERR.out,Yaf HE2.out,Yag (.inl hdn)]) (by omega) 0
   ·have e3:decide (doc<nx)=false:=by simpa using hdn
    by_cases hdg:4294967296<doc
    ·have e4:decide ((4294967296:Int)<doc)=true:=by simpa using hdg
     go_wp2;go_ret;exact HNO.out 1 (by rw[HERR.out,Yaf HE2.out,Yag (.inr (.inl hdg))]) (by omega) 0
    ·have e4:decide ((4294967296:Int)<doc)=false:=by simpa using hdg
     obtain⟨ok,hok⟩:∃ ok:Bool,ok=decide (n=m/\Zdk x n=false):=⟨_,rfl⟩
     rw[<- hok]at HSP;have HOK:=Zh hok.symm;clear hok;cases ok with
     | false=>
      go_wp2_with (go_at_call 126;refine HSP.out.mono ?_;rintro e w1 ⟨rfl,q,rfl⟩);go_ret;refine HNO.out 1 ?_ (by omega) q;have h1:=of_decide_eq_false HOK.out;rw[HERR.out,Yaf HE2.out,Yag];by_cases h2:n=m
      ·refine .inr (.inr (.inr ?_))
       cases h3:Zdk x n with
       | true=>rfl
       | false=>exact absurd ⟨h2,h3⟩ h1
      ·exact .inr (.inr (.inl h2))
     | true=>
      obtain⟨hnm,hbad⟩:=of_decide_eq_true HOK.out;subst hnm;have HZ:Hid (mErr L x=0):=Zh (by
       rw[HERR.out,Yaf HE2.out,Yaf];rintro(h|h|h|h)
       ·exact hdn h
       ·exact hdg h
       ·exact h rfl
       ·rw[hbad]at h;cases h)
      have HSX:Hid (∀ k,k<n->0<=x.T.getD k 0):=Zh (λk hk=>(badAt_iff.1 (badTo_iff.1 hbad k hk)).1);clear HERR HOK hbad;go_wp2_with (go_at_call 126;refine HSP.out.mono ?_;rintro e w1 ⟨rfl,q,rfl⟩);clear HSP;go_loopw [40] (λiv wr=>∃ (i:Nat) (G:Nat->Prop),i<=n/\iv=.int .i64 i/\PMap wr mb (totT L+i) (Zly L x i) G/\Kept F w wr/\Blk wr b 156 #[.map (some mb),.int .i64 (N:Int),.int .i64 nx]/\∀ j,G j->((F j/\j≠b)\/w.heap.size<=j)/\j<wr.heap.size) (λiv _=>n-(Go.RowKit.intOf iv).toNat);case atStart=>
       refine⟨0,λi=>F i/\i≠b,by omega,rfl,((HP0.out.keep (w':=w.drewN q) (λ_ _=>rfl)).lets (g:=Zly L x 0) (λt=>by unfold Zly plUp;simp[Zbu]) (λ_ h=>h)).more (by omega),⟨rfl,rfl,rfl,Yar _,λ_ _ _=>rfl⟩,HB0.out,λj hj=>⟨.inl hj,HFLT.out j hj.1⟩⟩
      case round=>
       obtain⟨i,G,hi1,rfl,hPm,hKw,hBw,hGw⟩:=hrel;have HPM:=Zh hPm;have HKW:=Zh hKw;have HBW:=Zh hBw;have HGW:=Zh hGw;clear c1 c2;have k1:=hBw.cell 1;have fz1:=hBw.frozen 1;simp only[lz0,lz1,lz2]at k1;obtain⟨hITw,hISw⟩:=HTK.out wr hKw;have HIT:=Zh hITw;have HIS:=Zh hISw;clear hPm hKw hBw hGw hITw hISw;rcases Yab i n with hlt|hge
       ·have d1:decide ((i:Int)<(n:Int))=true:=by simpa using hlt
        have p0:(0:Int)<=(i:Int):=by omega
        have p1:(i:Int)<(n:Int):=by omega
        have hw5:IntKind.i64.wrap ((i:Int)+1)=(i:Int)+1:=Ybo _ (by omega);obtain⟨pa,y,rfl,hy,cy,hyl,hyh⟩:=HIT.out.at i hlt;obtain⟨pc,z,rfl,hz,cz,hzl,hzh⟩:=HIS.out.at i hlt;have HY:=Zh (show x.T.getD i 0=y from by rw[Yaw,hy];rfl);have HZZ:=Zh (show x.S.getD i 0=z from by rw[Yaw,hz];rfl);have HYF:Hid (Zaj y):=Zh ⟨hyl,hyh⟩;obtain⟨f,hf⟩:=Ze (Zly L x i);have HNXT:Hid (∀ t,Zly L x (i+1) t=Zi0 f y (doc,(i:Int),z) t):=Zh (λt=>by rw[hf,HDOC.out];exact Zvs HY.out HZZ.out t);have hfl:(f y).length<=24096:=by have:=Zxc L x i y;rw[<- hf]at this;omega
        rw[<- hf]at HPM;have hroom:totT L+i<maxLen:=by unfold maxLen;omega
        have HROOM:=Zh hroom;obtain⟨wo,hwo⟩:=Ze wr;subst hwo;obtain⟨sb,hsb⟩:=Ze wo.heap.size;obtain⟨wi0,hwi0⟩:=Ze (wo.alloc (.cells #[.int .i64 (i:Int),.int .i64 z] 64));have hb0:Below wo.heap.size wo wi0:=by rw[hwi0];exact(Ybm _ wo).alloc (Yar _) _
        have HSB:=Zh hsb;have hbs:b<sb:=by rw[hsb];exact HBW.out.lt
        have HMB:Hid (G mb/\mb≠b/\mb≠sb/\(F mb\/w.heap.size<=mb)):=Zh (by
         have h1:=HGW.out mb HPM.out.inG;refine⟨HPM.out.inG,by rcases h1.1 with h|h;exact h.2;omega,by omega,h1.1.imp (λh=>h.1) id⟩)
        have HGR:Hid (∀ g,G g->g≠b/\g≠sb/\(F g\/w.heap.size<=g)):=Zh (λg hg=>by
         have h1:=HGW.out g hg;refine⟨by rcases h1.1 with h|h;exact h.2;omega,by omega,h1.1.imp (λh=>h.1) id⟩)
        have HP1:=Zh (HPM.out.keep (w':=wi0) λj hj=>hb0.block j (HGW.out j hj).2);have HK1:=Zh (show Kept F w wi0 from by rw[hwi0];exact HKW.out.alloc _);have HB1:=Zh (HBW.out.below hb0 HBW.out.lt);have HN1:Hid (Blk wi0 sb 64 #[.int .i64 (i:Int),.int .i64 z]):=Zh (by rw[hwi0,hsb];exact Blk.new _ _ _);have HSZ1:Hid (sb<wi0.heap.size/\w.heap.size<=sb):=Zh (by rw[hwi0,hsb];exact⟨by simp,HKW.out.size⟩);have HWI0:=Zh hwi0;clear hy hz hf hroom hb0 hsb hwi0 k1 fz1;go_upto_region 9 with fail;rw[<- HWI0.out,<- HSB.out];refine Yb8 (S:=λw'=>w'.cell? ⟨b,0,none⟩=some (.map (some mb))/\w'.cell? ⟨sb,0,none⟩=some (.int .i64 (i:Int))/\w'.cell? ⟨sb,1,none⟩=some (.int .i64 z)) (by kernel_rfl) ⟨HB1.out.cell 0,HN1.out.cell 0,HN1.out.cell 1⟩ (λhHeld=>?_);obtain⟨u0,hu0⟩:=Ze wi0.drew;rw[<- hu0]at hHeld ⊢;have HP2:=Zh (show PMap u0 mb (totT L+i) f G from HP1.out.keep λj _=>by rw[hu0];rfl);have HK2:=Zh (show Kept F w u0 from by rw[hu0];exact HK1.out.drew);have HB2:=Zh (show Blk u0 b _ _ from by rw[hu0];exact HB1.out.drew);have HN2:=Zh (show Blk u0 sb _ _ from by rw[hu0];exact HN1.out.drew);have HSZ2:Hid (sb<u0.heap.size):=Zh (by rw[hu0];exact HSZ1.out.1);have hS0:(λw':World=>w'.cell? ⟨b,0,none⟩=some (.map (some mb))/\w'.cell? ⟨sb,0,none⟩=some (.int .i64 (i:Int))/\w'.cell? ⟨sb,1,none⟩=some (.int .i64 z)) u0:=⟨HB2.out.cell 0,HN2.out.cell 0,HN2.out.cell 1⟩
        clear hu0;refine tk 0 ?_;(try simp only[Act.put,lz3,lz4,lz5]);refine tk 4 ?_;(try simp only[Act.put,lz3,lz4,lz5]);refine tk 5 ?_;(try simp only[Act.put,lz3,lz4,lz5]);refine tk 9 ?_;(try simp only[Act.put,lz3,lz4,lz5]);refine tk 11 ?_;(try simp only[Act.put,lz3,lz4,lz5]);refine tk 12 ?_;(try simp only[Act.put,lz3,lz4,lz5]);refine tk 1 ?_;(try simp only[Act.put,lz3,lz4,lz5]);refine tk 6 ?_;(try simp only[Act.put,lz3,lz4,lz5]);refine tk 13 ?_;(try simp only[Act.put,lz3,lz4,lz5]);refine tk 2 ?_;(try simp only[Act.put,lz3,lz4,lz5]);refine tk 7 ?_;(try simp only[Act.put,lz3,lz4,lz5]);refine tk 3 ?_;(try simp only[Act.put,lz3,lz4,lz5]);refine tk 8 ?_;(try simp only[Act.put,lz3,lz4,lz5]);refine rd2 10 14 ?sz14 ?sz15;case sz14=>
         intro K hK;obtain⟨vq1,hrq2,hOq3,hVGq4,hBKq5⟩:=HP2.out.step HROOM.out HYF.out;obtain⟨Avq1,cvq1,rfl⟩:=Zac hOq3;go_simp;clear hrq2;have Oq3:=Zh hOq3;have VGq4:=Zh hVGq4;have BKq5:=Zh hBKq5;have LGq6:=Zh (World.grownBy.refl u0 (Value.slice Avq1 (f y).length cvq1).ownBlock);clear hOq3 hVGq4 hBKq5;have LWSq7:=Zh (show w.heap.size<=u0.heap.size from HK2.out.size);refine hK.out _ _ ⟨HB2.out.cell 0,HN2.out.cell 0,HN2.out.cell 1⟩ (λhz16=>?_);clear hK K;(try simp only[Act.put,lz3,lz4,lz5]);refine rd1 14 ?sz17;case sz17=>
          intro K hK;go_simp;obtain⟨uq8,huq9⟩:=Ze (u0.alloc (.cells #[.int .i64 doc,.int .i64 (i:Int),.int .i64 z] 165));have Mq14:Hid (Blk uq8 u0.heap.size 165 #[.int .i64 doc,.int .i64 (i:Int),.int .i64 z]):=Zh (by rw[huq9];exact Blk.new _ _ _);rw[<- huq9];have hBq10:Below u0.heap.size u0 uq8:=by rw[huq9];exact(Ybm _ u0).alloc (Yar _) _
          have Bq10:=Zh (HB2.out.below hBq10 HB2.out.lt);have Nq11:=Zh (HN2.out.below hBq10 HN2.out.lt);have Kq12:=Zh (show Kept F w uq8 from by rw[huq9];exact HK2.out.alloc _);have Zq15:Hid (sb<uq8.heap.size):=Zh (Ya7 HSZ2.out hBq10.size);have Oq16:=Zh (Zab Oq3.out (λg hg=>hBq10.block g (World.ownsRow.lt Oq3.out g hg).2));have LGq17:=Zh (LGq6.out.trans (show World.grownBy u0 uq8 _ from by rw[huq9];exact World.grownBy_alloc _ _ _));clear huq9 hBq10;refine hK.out _ _ ⟨Bq10.out.cell 0,Nq11.out.cell 0,Nq11.out.cell 1⟩ (λhz18=>?_);clear hK K;(try simp only[Act.put,lz3,lz4,lz5]);refine rd1 15 ?sz19;case sz19=>
           intro K hK;refine Zar _ rfl (.tmp 61) (.tmp 65) 154 rfl (mb+1) 165 i0 _ 3 24 Tryz.underlying154 hi hz0 hz1 hz2 rfl (by decide) _ (f y).length _ rfl Oq16.out ⟨u0.heap.size,0,none⟩ 1 1 (Zcf (doc,(i:Int),z)) rfl rfl (Qch (p:=(doc,(i:Int),z)) Mq14.out) (Qcz _) (by unfold maxLen;omega) (by omega) (Nat.le_of_lt (Nat.lt_of_le_of_lt (by have:=HMB.out.1;have:=(HGW.out mb this).2;have:=HSB.out;omega) Zq15.out)) ?_;intro vq22 uq18 hwq19 hgq20 hlq21;have Bq23:=Zh (Bq10.out.grown hgq20 (λe=>(HGR.out b ((VGq4.out b e.symm).1)).1 rfl));have Nq24:=Zh (Nq11.out.grown hgq20 (λe=>(HGR.out sb ((VGq4.out sb e.symm).1)).2.1 rfl));have Kq25:=Zh (Kq12.out.grown hgq20 (λg hg=>(HGR.out g ((VGq4.out g hg).1)).2.2));have LGq26:=Zh (LGq17.out.trans hgq20);have Zq28:Hid (sb<uq18.heap.size):=Zh (Ya7 Zq15.out hgq20.size);have LCq29:=Zh (show vq22.ownBlock=(Value.slice Avq1 (f y).length cvq1).ownBlock\/∃ g,vq22.ownBlock=some g/\u0.heap.size<=g from hlq21.imp id (λe=>⟨_,e,LGq17.out.size⟩));have Oq27:=Zh hwq19;clear hwq19 hgq20 hlq21;refine hK.out _ _ ⟨Bq23.out.cell 0,Nq24.out.cell 0,Nq24.out.cell 1⟩ (λhz20=>?_);clear hK K;(try simp only[Act.put,lz3,lz4,lz5]);refine rd1 16 ?sz21;case sz21=>
            intro K hK;obtain⟨uq30,hrq31,hpq32,hgq33⟩:=BKq5.out uq18 vq22 (doc,(i:Int),z) LGq26.out Oq27.out LCq29.out;go_simp;clear hrq31;have Bq34:=Zh (Bq23.out.grown hgq33 (λe=>HMB.out.2.1 (Ya9 e).symm));have Nq35:=Zh (Nq24.out.grown hgq33 (λe=>HMB.out.2.2.1 (Ya9 e).symm));have Kq36:=Zh (Kq25.out.grown hgq33 (λg hg=>by cases hg;exact HMB.out.2.2.2));have Pq37:=Zh hpq32;have Zq38:=Zh (show u0.heap.size<=uq30.heap.size/\sb<uq30.heap.size from⟨Ybu LGq26.out.size hgq33.size,Ya7 Zq28.out hgq33.size⟩);clear hpq32 hgq33;refine hK.out _ _ ⟨Bq34.out.cell 0,Nq35.out.cell 0,Nq35.out.cell 1⟩ (λhz22=>?_);clear hK K;(try simp only[Act.put,lz3,lz4,lz5]);refine Yb9 (by kernel_rfl) ?_ _;go_wp2;go_roundw;case rel=>
             refine⟨i+1,λj=>G j\/(u0.heap.size<=j/\j<uq30.heap.size),by omega,by go_num,(Pq37.out.lets HNXT.out (λ_ h=>h)).more (by omega),Kq36.out,Bq34.out,λj hj=>?_⟩;have h1:=HSZ1.out;have h2:=HSB.out;have h3:=Zq38.out;rcases hj with hj|hj
             ·have h4:=HGW.out j hj
              exact⟨h4.1,by omega⟩
             ·exact⟨.inr (Ybu LWSq7.out hj.1),hj.2⟩
            case measure=>simp[Go.RowKit.intOf];omega
        case sz15=>
         intro K hK;go_simp;obtain⟨uq39,huq40⟩:=Ze (u0.alloc (.cells #[.int .i64 doc,.int .i64 (i:Int),.int .i64 z] 165));have Mq45:Hid (Blk uq39 u0.heap.size 165 #[.int .i64 doc,.int .i64 (i:Int),.int .i64 z]):=Zh (by rw[huq40];exact Blk.new _ _ _);rw[<- huq40];have hBq41:Below u0.heap.size u0 uq39:=by rw[huq40];exact(Ybm _ u0).alloc (Yar _) _
         have Bq41:=Zh (HB2.out.below hBq41 HB2.out.lt);have Nq42:=Zh (HN2.out.below hBq41 HN2.out.lt);have Kq43:=Zh (show Kept F w uq39 from by rw[huq40];exact HK2.out.alloc _);have Zq46:Hid (sb<uq39.heap.size):=Zh (Ya7 HSZ2.out hBq41.size);have Pq44:=Zh (HP2.out.keep (w':=uq39) λj hj=>hBq41.block j (Ya7 (HGW.out j hj).2 (by have:=HSZ2.out;have:=HSB.out;omega)));clear huq40 hBq41;refine hK.out _ _ ⟨Bq41.out.cell 0,Nq42.out.cell 0,Nq42.out.cell 1⟩ (λhz23=>?_);clear hK K;(try simp only[Act.put,lz3,lz4,lz5]);refine rd1 10 ?sz24;case sz24=>
          intro K hK;obtain⟨vq47,hrq48,hOq49,hVGq50,hBKq51⟩:=Pq44.out.step HROOM.out HYF.out;obtain⟨Avq47,cvq47,rfl⟩:=Zac hOq49;go_simp;clear hrq48;have Oq49:=Zh hOq49;have VGq50:=Zh hVGq50;have BKq51:=Zh hBKq51;have LGq52:=Zh (World.grownBy.refl uq39 (Value.slice Avq47 (f y).length cvq47).ownBlock);clear hOq49 hVGq50 hBKq51;have LWSq53:=Zh (show w.heap.size<=uq39.heap.size from Kq43.out.size);refine hK.out _ _ ⟨Bq41.out.cell 0,Nq42.out.cell 0,Nq42.out.cell 1⟩ (λhz25=>?_);clear hK K;(try simp only[Act.put,lz3,lz4,lz5]);refine rd1 15 ?sz26;case sz26=>
           intro K hK;refine Zar _ rfl (.tmp 61) (.tmp 65) 154 rfl (mb+1) 165 i0 _ 3 24 Tryz.underlying154 hi hz0 hz1 hz2 rfl (by decide) _ (f y).length _ rfl Oq49.out ⟨u0.heap.size,0,none⟩ 1 1 (Zcf (doc,(i:Int),z)) rfl rfl (Qch (p:=(doc,(i:Int),z)) Mq45.out) (Qcz _) (by unfold maxLen;omega) (by omega) (Nat.le_of_lt (Nat.lt_of_le_of_lt (by have:=HMB.out.1;have:=(HGW.out mb this).2;have:=HSB.out;omega) Zq46.out)) ?_;intro vq58 uq54 hwq55 hgq56 hlq57;have Bq59:=Zh (Bq41.out.grown hgq56 (λe=>(HGR.out b ((VGq50.out b e.symm).1)).1 rfl));have Nq60:=Zh (Nq42.out.grown hgq56 (λe=>(HGR.out sb ((VGq50.out sb e.symm).1)).2.1 rfl));have Kq61:=Zh (Kq43.out.grown hgq56 (λg hg=>(HGR.out g ((VGq50.out g hg).1)).2.2));have LGq62:=Zh (LGq52.out.trans hgq56);have Zq64:Hid (sb<uq54.heap.size):=Zh (Ya7 Zq46.out hgq56.size);have LCq65:=Zh (show vq58.ownBlock=(Value.slice Avq47 (f y).length cvq47).ownBlock\/∃ g,vq58.ownBlock=some g/\uq39.heap.size<=g from hlq57.imp id (λe=>⟨_,e,LGq52.out.size⟩));have Oq63:=Zh hwq55;clear hwq55 hgq56 hlq57;refine hK.out _ _ ⟨Bq59.out.cell 0,Nq60.out.cell 0,Nq60.out.cell 1⟩ (λhz27=>?_);clear hK K;(try simp only[Act.put,lz3,lz4,lz5]);refine rd1 16 ?sz28;case sz28=>
            intro K hK;obtain⟨uq66,hrq67,hpq68,hgq69⟩:=BKq51.out uq54 vq58 (doc,(i:Int),z) LGq62.out Oq63.out LCq65.out;go_simp;clear hrq67;have Bq70:=Zh (Bq59.out.grown hgq69 (λe=>HMB.out.2.1 (Ya9 e).symm));have Nq71:=Zh (Nq60.out.grown hgq69 (λe=>HMB.out.2.2.1 (Ya9 e).symm));have Kq72:=Zh (Kq61.out.grown hgq69 (λg hg=>by cases hg;exact HMB.out.2.2.2));have Pq73:=Zh hpq68;have Zq74:=Zh (show uq39.heap.size<=uq66.heap.size/\sb<uq66.heap.size from⟨Ybu LGq62.out.size hgq69.size,Ya7 Zq64.out hgq69.size⟩);clear hpq68 hgq69;refine hK.out _ _ ⟨Bq70.out.cell 0,Nq71.out.cell 0,Nq71.out.cell 1⟩ (λhz29=>?_);clear hK K;(try simp only[Act.put,lz3,lz4,lz5]);refine Yb9 (by kernel_rfl) ?_ _;go_wp2;go_roundw;case rel=>
             refine⟨i+1,λj=>G j\/(uq39.heap.size<=j/\j<uq66.heap.size),by omega,by go_num,(Pq73.out.lets HNXT.out (λ_ h=>h)).more (by omega),Kq72.out,Bq70.out,λj hj=>?_⟩;have h1:=HSZ1.out;have h2:=HSB.out;have h3:=Zq74.out;rcases hj with hj|hj
             ·have h4:=HGW.out j hj
              exact⟨h4.1,by omega⟩
             ·exact⟨.inr (Ybu LWSq53.out hj.1),hj.2⟩
            case measure=>simp[Go.RowKit.intOf];omega
       ·obtain rfl:i=n:=by omega
        have hlz:¬ ((i:Int)<(i:Int)):=by omega
        have d1:decide ((i:Int)<(i:Int))=false:=by simp
        have hwN:IntKind.i64.wrap ((N:Int)+1)=(N:Int)+1:=Ybo _ (by omega);have hwD:IntKind.i64.wrap (doc+1)=doc+1:=Ybo _ (by omega);have hB3:=HBW.out.set_ 1 (.int .i64 ((N:Int)+1));have k2:=hB3.cell 2;have fz2:=hB3.frozen 2;simp only[lz3,lz5,lz4,lz0,lz1,lz2]at k2;have hB4:=hB3.set_ 2 (.int .i64 (doc+1));have HB4:=Zh hB4;clear hB3 hB4;go_wp2;go_ret;obtain⟨wf,hwf⟩:=Ze ((wr.setCell ⟨b,1,none⟩ (.int .i64 ((N:Int)+1))).setCell ⟨b,2,none⟩ (.int .i64 (doc+1)));have hb4:=HB4.out;rw[<- hwf]at hb4 ⊢;have hsz:wf.heap.size=wr.heap.size:=by rw[hwf,Zai,Zai]
        have hoth:∀ j,j≠b->wf.heap[j]?=wr.heap[j]?:=λj hj=>by rw[hwf];exact(Zad _ _ _ hj).trans (Zad _ _ _ hj)
        have hk4:Kept F w wf:=by rw[hwf];exact(HKW.out.setCell (p:=⟨b,1,none⟩) (.inl HFB.out) _).setCell (p:=⟨b,2,none⟩) (.inl HFB.out) _
        have hadd:mAdd L x=L++[x]:=by unfold mAdd;rw[Yag HZ.out]
        have hjb:∀ j,G j->j≠b:=λj hj=>by
         have h1:=HGW.out j hj;rcases h1.1 with h|h
         ·exact h.2
         ·omega
        refine⟨by rw[HZ.out];rfl,λj=>j=b\/G j,?_,hk4,λj hj=>?_⟩
        ·rw[hadd]
         refine⟨.inl rfl,λj hj=>?_,mb,?_,?_⟩
         ·rw[hsz]
          rcases hj with rfl|hj
          ·exact HBW.out.lt
          ·exact(HGW.out j hj).2
         ·rw[Zvt,Yaq,Yae,<- HN.out,<- HDOC.out]
          exact hb4
         ·refine((HPM.out.keep λj hj=>hoth j (hjb j hj)).lets (λt=>?_) (λj hj=>⟨.inr hj,hjb j hj⟩)).more ?_
          ·rw[Zk1,HTL.out]
           rfl
          ·rw[Zee]
           simp[totT,HTL.out]
        ·rcases hj with rfl|hj
         ·exact .inl HFB.out
         ·exact(HGW.out j hj).1.imp (λh=>h.1) id
def Zbs (s:Rd):Nm:=if s.e≠0 then [] else s.bs.drop s.p
theorem Zfj {s:Rd} (h:s.e=0):Zbs s=s.bs.drop s.p:=by unfold Zbs;rw[Yaf (by simpa using h)]
theorem Zxt {s:Rd} (h:s.e≠0):Zbs s=[]:=by unfold Zbs;rw[Yag h]
theorem Zwk {s:Rd}:(Zbs s).length=Zbt s:=by
 unfold Zbs Zbt;split
 ·rfl
 ·simp
structure IsR (w:World) (b:Nat) (g:Nat->Prop) (s:Rd):Prop where
 at_:∃ A c,Blk w b 255 #[.slice A (Zbs s).length c,.int .i64 s.e]/\BytesIn w A (Zbs s).length (Zbs s)/\(Zbs s).length<=c/\∀ ad,A=some ad->0<(Zbs s).length->g ad.block
 ne:¬ g b
 lt:∀ i,g i->i<w.heap.size
 ok:s.Ok
 fit:s.bs.length<=1099511627776
theorem IsR.kept {w w':World} {b:Nat} {g:Nat->Prop} {s:Rd} (h:IsR w b g s) {F:Nat->Prop} (hk:Kept F w w') (hb:¬ F b) (hg:∀ i,g i->¬ F i):IsR w' b g s:=by
 obtain⟨A,c,h1,h2,h3,h4⟩:=h.at_;exact⟨⟨A,c,h1.kept hk hb,h2.keep hk (λad e h0=>hg _ (h4 ad e h0)),h3,h4⟩,h.ne,λi hi=>Ya7 (h.lt i hi) hk.size,h.ok,h.fit⟩
theorem Qce (w:World) (b:Nat) (g:Nat->Prop) (s:Rd) (hR:IsR w b g s):
  Calls Tryz.prog 150 #[at0 b] w λe w'=>e=.returned (.int .i64 s.e)/\w'=w:=by
 obtain⟨A,c,h1,h2,h3,h4⟩:=hR.at_;have c1:=h1.cell 1;simp at c1;clear h1 h2 h3 h4 hR;unfold at0;go_enter Tryz.func150,Tryz.ntmps150;go_wp2;go_ret;exact⟨rfl,rfl⟩
theorem Zo0 (w:World) (b:Nat) (g:Nat->Prop) (s:Rd) (hR:IsR w b g s):
  Calls Tryz.prog 151 #[at0 b] w λe w'=>e=.returned (.int .i64 (Zbt s))/\w'=w:=by
 obtain⟨A,c,h1,h2,h3,h4⟩:=hR.at_;rw[Zwk]at h1;have c0:=h1.cell 0;simp at c0;clear h1 h2 h3 h4 hR;unfold at0;go_enter Tryz.func151,Tryz.ntmps151;go_wp2;go_ret;exact⟨rfl,rfl⟩
def Qdy (w:World) (b:Nat) (g:Nat->Prop) (s:Rd) (FF:Nat->Prop) (Q:Nat->Int->World->Prop) (e:Ending) (w':World):Prop:=
 e=.returned (.tuple #[])/\((s.e≠0/\w'=w)\/(s.e=0/\∃ k er w1,Q k er w1/\Kept FF w w1/\Kept (λi=>i=b) w1 w'/\IsR w' b g (if er≠0 then { s with e:=er } else { s with p:=s.p+k })))
theorem Zqb (f:Nat) (cap:Array Value) (eg:∀ args w,(callFunc f args).run Tryz.prog w=.ok (.enter f args) w) (w:World) (b:Nat) (g:Nat->Prop) (s:Rd) (hR:IsR w b g s) (FF:Nat->Prop) (hb:¬ FF b) (hg:∀ i,g i->¬ FF i) (Q:Nat->Int->World->Prop)
  (hcl:s.e=0->∀ A c,BytesIn w A (Zbs s).length (Zbs s)->(Zbs s).length<=c->Calls Tryz.prog f (#[.slice A (Zbs s).length c]++cap) w λe w1=>∃ (k:Nat) (er:Int),e=.returned (.tuple #[.int .i64 k,.int .i64 er])/\Q k er w1/\Kept FF w w1/\(er=0->k<=(Zbs s).length)):
  Calls Tryz.prog 146 #[at0 b,.func (.func f) #[] cap] w (Qdy w b g s FF Q):=by
 have HR:=Zh hR;obtain⟨A,c,h1,h2,h3,h4⟩:=hR.at_;have c0:=h1.cell 0;have c1:=h1.cell 1;simp at c0 c1;have hfit:=hR.fit;clear hR;unfold at0;by_cases he:s.e=0
 ·have HC:=Zh (hcl he A c h2 h3)
  have d0:(s.e != 0)=false:=by simpa using he
  obtain⟨n,hn⟩:=Ze ((Zbs s).length);have hnl:n<=1099511627776:=by
   rw[hn,Zfj he,Yas];omega
  rw[<- hn]at c0 h1 h3 h2 h4;have H1:=Zh h1;have H2:=Zh h2;have H4:=Zh h4;have HE:=Zh he;have HNN:=Zh hn;have hc2:=HC.out;rw[<- hn]at hc2;have HC2:=Zh hc2;clear HC h1 h2 h4 he hn hc2 hcl;go_enter Tryz.func146,Tryz.ntmps146;go_wp2_with fail;refine HC2.out.mono ?_;rintro e w1 ⟨k,er,rfl,hQ,hK,hkn⟩;have HQ:=Zh hQ;have HK:=Zh hK;have b1:=H1.out.kept hK hb;have k0:=b1.cell 0;have k1:=b1.cell 1;have z0:=b1.frozen 0;have z1:=b1.frozen 1;simp at k0 k1;have B1:=Zh b1;clear hQ hK b1 c0 c1;by_cases her:er=0
  ·subst her
   have hkn2:=hkn rfl;clear hkn;have hkn:=hkn2;clear hkn2;have s1:∀ w,(Instr.slice 24 (.slice A n c) (some (.int .i64 k)) none none).run Tryz.prog w=.ok (.slice (Zak A k c) (n-k) (c-k)) w:=λw=>Zbf w A n c k hkn;go_wp2;go_end0;refine⟨rfl,.inr ⟨HE.out,k,0,w1,HQ.out,HK.out,(Kept.refl (λi=>i=b) w1).setCell (.inl rfl) _,?_⟩⟩;rw[Yaf (by simp)];have hr:Zbs s=s.bs.drop s.p:=Zfj HE.out;have hr2:Zbs { s with p:=s.p+k }=s.bs.drop (s.p+k):=Zfj (s:={ s with p:=s.p+k }) HE.out;have hln:n=s.bs.length-s.p:=by rw[HNN.out,hr,Yas]
   have hl2:(s.bs.drop (s.p+k)).length=n-k:=by rw[Yas,hln];omega
   have hin:=(H2.out.keep HK.out (λad e h0=>hg _ (H4.out ad e h0))).sub h3 k n hkn (Yar _);have e3:((Zbs s).take n).drop k=s.bs.drop (s.p+k):=by
    rw[HNN.out,Ya6,hr,Ya1]
   rw[e3]at hin;have hp:=HR.out.ok.place;refine⟨⟨Zak A k c,c-k,?_,?_,?_,?_⟩,HR.out.ne,λi hi=>by have h1:=HR.out.lt i hi;have h2:=HK.out.size;simp[World.setCell];omega,⟨by simp only;omega⟩,HR.out.fit⟩
   ·rw[hr2,hl2]
    exact B1.out.set_ 0 _
   ·rw[hr2,hl2]
    exact hin.keep ((Kept.refl (λi=>i=b) w1).setCell (.inl rfl) _) (λad e h0=>by
     have hbk:g ad.block:=by
      unfold Zak at e;split at e
      ·exact H4.out ad e (by omega)
      ·cases hA:A with
       | none=>rw[hA]at e;cases e
       | some a=>
        rw[hA]at e;simp only[Option.map_some,Option.some.injEq]at e;subst e;have hb:(a.add k).block=a.block:=by unfold Addr.add;split<;>rfl
        rw[hb];exact H4.out a hA (by omega)
     exact λe=>HR.out.ne (e ▸ hbk))
   ·rw[hr2,hl2];omega
   ·rw[hr2,hl2]
    intro ad e h0;unfold Zak at e;split at e
    ·exact H4.out ad e (by omega)
    ·cases hA:A with
     | none=>rw[hA]at e;cases e
     | some a=>
      rw[hA]at e;simp only[Option.map_some,Option.some.injEq]at e;subst e;have hb:(a.add k).block=a.block:=by unfold Addr.add;split<;>rfl
      rw[hb];exact H4.out a hA (by omega)
  ·have d1:(er != 0)=true:=by simpa using her
   have HER:=Zh her;clear her;go_wp2;go_end0;refine⟨rfl,.inr ⟨HE.out,k,er,w1,HQ.out,HK.out,((Kept.refl (λi=>i=b) w1).setCell (.inl rfl) _).setCell (.inl rfl) _,?_⟩⟩;rw[Yag HER.out];have hr2:Zbs { s with e:=er }=[]:=Zxt (s:={ s with e:=er }) HER.out;refine⟨⟨none,0,?_,?_,?_,?_⟩,HR.out.ne,λi hi=>by have h1:=HR.out.lt i hi;have h2:=HK.out.size;simp[World.setCell];omega,⟨HR.out.ok.place⟩,HR.out.fit⟩
   ·rw[hr2]
    exact(B1.out.set_ 0 _).set_ 1 _
   ·rw[hr2];exact BytesIn.nil _
   ·rw[hr2];exact Ybd _
   ·intro ad e;cases e
 ·have d0:(s.e != 0)=true:=by simpa using he
  have HE:=Zh he;clear he hcl h1 h2 h3 h4;go_enter Tryz.func146,Tryz.ntmps146;go_wp2;go_end0;exact⟨rfl,.inl ⟨HE.out,rfl⟩⟩
end
section
open Go.RowKit Go.Maps Go.WideMaps Go.Shelf
theorem Zsq {P:Program} {f:FuncId} {args:Array Value} {w:World} {Q:Ending->World->Prop} (h:∀ W,W=w->Calls P f args W Q):Calls P f args w Q:=h w rfl
def Zdb (l:Nm) (most:Int):Int×Nat×Int:=
 if (getL l).2.2≠0 then (0,0,(getL l).2.2) else if most<0\/most<((getL l).1:Int) then (0,0,32) else ((getL l).1,(getL l).2.1,0)
theorem Qee {s:Rd} (hs:s.e=0) (most:Int):rInt s most=((Zdb (Zbs s) most).1,if (Zdb (Zbs s) most).2.2≠0 then { s with e:=(Zdb (Zbs s) most).2.2 } else { s with p:=s.p+(Zdb (Zbs s) most).2.1 }):=by
 unfold rInt Zdb;rw[Yaf (by simpa using hs),Zfj hs];rcases getL (s.bs.drop s.p)with⟨v,j,e⟩
 by_cases he:e=0
 ·subst he
  by_cases hm:most<0\/most<(v:Int)
  ·simp[hm]
  ·simp[hm]
 ·simp[he]
theorem Zv0 (w:World) (A:Option Addr) (n c:Nat) (l:Nm) (hl:BytesIn w A n l) (m f:Nat) (most:Int) (hm1:-9223372036854775808<=most) (hm2:most<=9223372036854775807) (hm:Blk w m 3 #[.int .i64 most]) (hf:Blk w f 3 #[.int .i64 0]):
  Calls Tryz.prog 147 #[.slice A n c,at0 m,at0 f] w λe w1=>e=.returned (.tuple #[.int .i64 ((Zdb l most).2.1:Nat),.int .i64 (Zdb l most).2.2])/\Blk w1 f 3 #[.int .i64 (Zdb l most).1]/\Kept (λi=>i=f) w w1/\((Zdb l most).2.2=0->(Zdb l most).2.1<=n):=by
 have HL:=Zh hl;have hln:l.length=n:=by have:=hl.2.1.len;simpa using this
 have HLN:=Zh hln;have HF:=Zh hf;have c0:=hm.cell 0;have f0:=hf.cell 0;have z0:=hf.frozen 0;simp at c0 f0;clear hl hln hm hf;unfold at0;obtain⟨v,j,er,hg⟩:∃ v j e,getL l=(v,j,e):=⟨_,_,_,rfl⟩
 have HG:=Zh hg;obtain⟨r,hr⟩:=Ze (Zdb l most);rw[<- hr];have hr2:r=if er≠0 then (0,0,er) else if most<0\/most<(v:Int) then (0,0,32) else ((v:Int),j,0):=by
  rw[hr];unfold Zdb;rw[hg]
 clear hr hg;go_enter Tryz.func147,Tryz.ntmps147;go_wp2_with fail;refine(Zkt w A n c l HL.out HG.out).mono ?_;rintro e w1 ⟨rfl,hw⟩;rw[hw];clear hw;by_cases he:er=0
 ·subst he
  rw[Yaf (by simp)]at hr2;by_cases ho:most<0\/most<(v:Int)
  ·rw[Yag ho]at hr2
   have hd:=Yb0 ho;clear ho;go_wp2_with fail;refine(Zif w v most hm1 hm2).mono ?_;rintro e w1 ⟨rfl,hw⟩;rw[hw,hd];clear hw hd;go_wp2;go_ret2;rw[hr2];exact⟨rfl,HF.out,Kept.refl _ _,λ_=>Ybd _⟩
  ·rw[Yaf ho]at hr2
   have hd:=Ybt ho;have hgi:=Zby HG.out;obtain⟨q1,q2,q3,q4,q5⟩:=hgi;rw[HLN.out]at q3;have hvz:IntKind.i64.wrap (v:Int)=(v:Int):=Ybo _ (by omega);clear ho q4;go_wp2_with fail;refine(Zif w v most hm1 hm2).mono ?_;rintro e w1 ⟨rfl,hw⟩;rw[hw,hd];clear hw hd;go_wp2;go_ret2;rw[hr2];exact⟨rfl,by simpa using HF.out.set_ 0 (.int .i64 (v:Int)),(Kept.refl (λi=>i=f) w).setCell (.inl rfl) _,λ_=>q3⟩
 ·rw[Yag he]at hr2
  have d1:(er != 0)=true:=by simpa using he
  have HE:=Zh he;clear he;go_wp2;go_ret2;rw[hr2];exact⟨rfl,HF.out,Kept.refl _ _,λ_=>Ybd _⟩
theorem Zjw (w:World) (b:Nat) (g:Nat->Prop) (s:Rd) (hR:IsR w b g s) (most:Int) (hm1:-9223372036854775808<=most) (hm2:most<=9223372036854775807):
  Calls Tryz.prog 102 #[at0 b,.int .i64 most] w λe w'=>e=.returned (.int .i64 (rInt s most).1)/\IsR w' b g (rInt s most).2/\Kept (λi=>i=b) w w':=by
 have HR:=Zh hR;have hbl:b<w.heap.size:=by obtain⟨A,c,h1,_⟩:=hR.at_;exact h1.lt
 clear hR;unfold at0;go_enter Tryz.func102,Tryz.ntmps102;go_wp2_with fail;refine Zsq ?_;intro W hW;have hWk:Kept (λ_=>False) w W:=by rw[hW];exact((Kept.refl _ w).alloc _).alloc _
 have hb1:Blk W w.heap.size 3 #[.int .i64 most]:=by rw[hW];exact(Blk.new _ _ _).alloc _
 have hb2:Blk W (w.heap.size+1) 3 #[.int .i64 0]:=by rw[hW];have:=Blk.new (w.alloc (.cells #[.int .i64 most] 3)) 3 #[.int .i64 0];simpa using this
 have hR2:=HR.out.kept hWk (λh=>h) (λ_ _ h=>h);clear hW;refine(Zqb 147 #[at0 w.heap.size,at0 (w.heap.size+1)] (enters_of Tryz.func147 (by kernel_rfl) rfl) W b g s hR2 (λi=>i=w.heap.size+1) (by omega) (λi hi e=>by have:=HR.out.lt i hi;omega) (λk er w1=>s.e=0/\Blk w1 (w.heap.size+1) 3 #[.int .i64 (Zdb (Zbs s) most).1]/\k=(Zdb (Zbs s) most).2.1/\er=(Zdb (Zbs s) most).2.2) ?_).mono ?_
 ·intro hs A c h1 h2
  refine(Zv0 W A _ c (Zbs s) h1 w.heap.size (w.heap.size+1) most hm1 hm2 hb1 hb2).mono ?_;rintro e w1 ⟨rfl,h3,h4,h5⟩;exact⟨_,_,rfl,⟨hs,h3,rfl,rfl⟩,h4,h5⟩
 ·rintro e w' ⟨rfl,h⟩
  have hres:∃ r:Int×Rd,r=rInt s most/\Blk w' (w.heap.size+1) 3 #[.int .i64 r.1]/\IsR w' b g r.2/\Kept (λi=>i=b) w w':=by
   rcases h with⟨hs,rfl⟩|⟨hs,k,er,w1,⟨_,h1,rfl,rfl⟩,h2,h3,h4⟩
   ·refine⟨(0,s),?_,hb2,hR2,hWk.mono (λ_ h=>h.elim)⟩
    unfold rInt;rw[Yag hs]
   ·refine⟨((Zdb (Zbs s) most).1,if (Zdb (Zbs s) most).2.2≠0 then { s with e:=(Zdb (Zbs s) most).2.2 } else { s with p:=s.p+(Zdb (Zbs s) most).2.1 }),?_,h1.kept h3 (by omega),h4,(Kept.trans (F:=λi=>i=b) (hWk.mono (λ_ h=>h.elim)) h2 ?_).trans h3 (λi _ h=>h)⟩
    ·exact(Qee hs most).symm
    ·intro i hi h;omega
  obtain⟨r,hr,hf,hR3,hk3⟩:=hres;have HRR:=Zh hr;have f0:=hf.cell 0;simp at f0;have HR3:=Zh hR3;have HK3:=Zh hk3;clear hr hf hR3 hk3 h hb1 hb2 hR2 hWk;go_wp2;go_ret;rw[<- HRR.out];exact⟨rfl,HR3.out,HK3.out⟩
def Zbk (l:Nm) (n:Int):List UInt8×Nat×Int:=if (l.length:Int)<n then ([],0,31) else (l.take n.toNat,n.toNat,0)
theorem Zyr {s:Rd} (hs:s.e=0) (hok:s.Ok) {n:Int} (hn:¬ n<=0):Zbd s n=((Zbk (Zbs s) n).1,if (Zbk (Zbs s) n).2.2≠0 then { s with e:=(Zbk (Zbs s) n).2.2 } else { s with p:=s.p+(Zbk (Zbs s) n).2.1 }):=by
 have hp:=hok.place;unfold Zbd Zbk;rw[Yaf (by rintro(h|h)<;>contradiction),Zfj hs];have e:((s.bs.drop s.p).length:Int)=(s.bs.length:Int)-s.p:=by rw[Yas];omega
 rw[e];by_cases h:(s.bs.length:Int)-s.p<n
 ·rw[Yag h,Yag h,Yag (show(31:Int)≠0 by decide)]
 ·rw[Yaf h,Yaf h,Yaf (show ¬ (0:Int)≠0 by decide)]
theorem Zq7 (w:World) (A:Option Addr) (k c:Nat) (l:Nm) (hl:BytesIn w A k l) (hkc:k<=c) (hkl:k<=1099511627776) (m f:Nat) (n:Int) (h0:¬ n<=0) (hm:Blk w m 3 #[.int .i64 n]) (hf:Blk w f 24 #[.slice none 0 0]) (hmf:m≠f):
  Calls Tryz.prog 175 #[.slice A k c,at0 m,at0 f] w λe w1=>e=.returned (.tuple #[.int .i64 ((Zbk l n).2.1:Nat),.int .i64 (Zbk l n).2.2])/\(∃ v,Blk w1 f 24 #[v]/\w1.ownsRow w.heap.size 5 1 v (Zbk l n).1.length ((Zbk l n).1.map byteV))/\Kept (λi=>i=f) w w1/\((Zbk l n).2.2=0->(Zbk l n).2.1<=k):=by
 have HL:=Zh hl;have hln:l.length=k:=by have:=hl.2.1.len;simpa using this
 have HLN:=Zh hln;have HF:=Zh hf;have HM:=Zh hm;have hfl:=hf.lt;have hml:=hm.lt;have c0:=hm.cell 0;have z0:=hf.frozen 0;simp at c0;obtain⟨r,hr⟩:=Ze (Zbk l n);rw[<- hr];unfold Zbk at hr;rw[hln]at hr;clear hl hln hm hf;unfold at0;by_cases hlt:(k:Int)<n
 ·rw[Yag hlt]at hr
  have HRR:=Zh hr;clear hr;go_enter Tryz.func175,Tryz.ntmps175;go_wp2;go_ret2;rw[HRR.out];exact⟨rfl,⟨_,HF.out,⟨rfl,.inl ⟨rfl,rfl⟩⟩⟩,Kept.refl _ _,λ_=>Ybd _⟩
 ·rw[Yaf hlt]at hr
  obtain⟨N,rfl⟩:∃ N:Nat,n=N:=⟨n.toNat,by omega⟩
  rw[Yb3]at hr;have hNk:N<=k:=by omega
  have HRR:=Zh hr;clear hr;have s1:∀ w,(Instr.slice 24 (.slice A k c) none (some (.int .i64 N)) none).run Tryz.prog w=.ok (.slice A N c) w:=λw=>Zgr w A k c N (by omega);go_enter Tryz.func175,Tryz.ntmps175;go_wp2_with fail;refine(Ze3 w A N c (l.take N) (HL.out.upto N hNk) (by omega)).mono ?_;rintro e w1 ⟨v,rfl,hO,hB⟩;obtain⟨A2,c2,hv⟩:=Zac hO;subst hv;have HO:=Zh hO;have HB:=Zh hB;have m1:=HM.out.below hB hml;have f1:=HF.out.below hB hfl;have k0:=m1.cell 0;have y0:=f1.frozen 0;have f0:=f1.cell 0;simp at k0 f0;have HF1:=Zh f1;have j0:(w1.setCell ⟨f,0,none⟩ (.slice A2 N c2)).cell? ⟨m,0,none⟩=some (.int .i64 N):=by
   rw[(m1.far (p:=⟨f,0,none⟩) hmf (.slice A2 N c2)).cell 0];rfl
  clear hO hB m1 f1 c0 z0;go_wp2;go_ret2;rw[HRR.out];have hlen:(l.take N).length=N:=by rw[Ycc,HLN.out];omega
  refine⟨rfl,⟨.slice A2 N c2,by simpa using HF1.out.set_ 0 (.slice A2 N c2),?_⟩,(Kept.below (F:=λi=>i=f) HB.out).setCell (.inl rfl) _,λ_=>hNk⟩;show World.ownsRow _ _ _ _ _ (l.take N).length _;rw[hlen];exact Zab HO.out λg hg=>Zad _ _ _ λe=>by
   have:=(HO.out.lt g hg).1
   simp at e;omega
def LBytesOut (w:World) (b:Nat) (g:Nat->Prop) (r:List UInt8×Rd) (e:Ending) (w':World):Prop:=
 ∃ v,e=.returned v/\w'.ownsRow w.heap.size 5 1 v r.1.length (r.1.map byteV)/\IsR w' b g r.2/\Kept (λi=>i=b) w w'
theorem Zmo (w:World) (b:Nat) (g:Nat->Prop) (s:Rd) (hR:IsR w b g s) (n:Int) (hm1:-9223372036854775808<=n) (hm2:n<=9223372036854775807):
  Calls Tryz.prog 152 #[at0 b,.int .i64 n] w (LBytesOut w b g (Zbd s n)):=by
 have HR:=Zh hR;have hbl:b<w.heap.size:=by obtain⟨A,c,h1,_⟩:=hR.at_;exact h1.lt
 clear hR;unfold at0;by_cases hn:n<=0
 ·have hres:Zbd s n=([],s):=by unfold Zbd;rw[Yag (.inr hn)]
  rw[hres];clear hres;go_enter Tryz.func152,Tryz.ntmps152;go_wp2;go_ret;have hWk:Kept (λ_=>False) w (w.alloc (.cells #[.int .i64 n] 3)):=(Kept.refl _ w).alloc _;exact⟨_,rfl,⟨rfl,.inl ⟨rfl,rfl⟩⟩,HR.out.kept hWk (λh=>h) (λ_ _ h=>h),hWk.mono (λ_ h=>h.elim)⟩
 have HN:=Zh hn;go_enter Tryz.func152,Tryz.ntmps152;go_wp2_with fail;refine Zsq ?_;intro W hW;have hWk:Kept (λ_=>False) w W:=by rw[hW];exact((Kept.refl _ w).alloc _).alloc _
 have hb1:Blk W w.heap.size 3 #[.int .i64 n]:=by rw[hW];exact(Blk.new _ _ _).alloc _
 have hb2:Blk W (w.heap.size+1) 24 #[.slice none 0 0]:=by rw[hW];have:=Blk.new (w.alloc (.cells #[.int .i64 n] 3)) 24 #[.slice none 0 0];simpa using this
 have hR2:=HR.out.kept hWk (λh=>h) (λ_ _ h=>h);have hWs:=hWk.size;have hfit:=HR.out.fit;clear hW;refine(Zqb 175 #[at0 w.heap.size,at0 (w.heap.size+1)] (enters_of Tryz.func175 (by kernel_rfl) rfl) W b g s hR2 (λi=>i=w.heap.size+1) (by omega) (λi hi e=>by have:=HR.out.lt i hi;omega) (λk er w1=>s.e=0/\(∃ v,Blk w1 (w.heap.size+1) 24 #[v]/\w1.ownsRow W.heap.size 5 1 v (Zbk (Zbs s) n).1.length ((Zbk (Zbs s) n).1.map byteV))/\k=(Zbk (Zbs s) n).2.1/\er=(Zbk (Zbs s) n).2.2) ?_).mono ?_
 ·intro hs A c h1 h2
  have hl:(Zbs s).length<=1099511627776:=by rw[Zfj hs,Yas];omega
  refine(Zq7 W A _ c (Zbs s) h1 h2 hl w.heap.size (w.heap.size+1) n (by have:=HN.out;omega) hb1 hb2 (by omega)).mono ?_;rintro e w1 ⟨rfl,h3,h4,h5⟩;exact⟨_,_,rfl,⟨hs,h3,rfl,rfl⟩,h4,h5⟩
 ·rintro e w' ⟨rfl,h⟩
  have hres:∃ r:List UInt8×Rd,r=Zbd s n/\(∃ v,Blk w' (w.heap.size+1) 24 #[v]/\w'.ownsRow W.heap.size 5 1 v r.1.length (r.1.map byteV))/\IsR w' b g r.2/\Kept (λi=>i=b) w w':=by
   rcases h with⟨hs,rfl⟩|⟨hs,k,er,w1,⟨_,⟨v,h1,h1o⟩,rfl,rfl⟩,h2,h3,h4⟩
   ·refine⟨([],s),?_,⟨_,hb2,⟨rfl,.inl ⟨rfl,rfl⟩⟩⟩,hR2,hWk.mono (λ_ h=>h.elim)⟩
    unfold Zbd;rw[Yag (.inl hs)]
   ·refine⟨((Zbk (Zbs s) n).1,if (Zbk (Zbs s) n).2.2≠0 then { s with e:=(Zbk (Zbs s) n).2.2 } else { s with p:=s.p+(Zbk (Zbs s) n).2.1 }),?_,⟨v,h1.kept h3 (by omega),?_⟩,h4,(Kept.trans (F:=λi=>i=b) (hWk.mono (λ_ h=>h.elim)) h2 ?_).trans h3 (λi _ h=>h)⟩
    ·exact(Zyr hs HR.out.ok (n:=n) (by have:=HN.out;omega)).symm
    ·exact Zf2 h1o h3 (λg' hg' e=>by have:=(h1o.lt g' hg').1;omega)
    ·intro i hi h;omega
  obtain⟨r,hr,⟨v,hf,ho⟩,hR3,hk3⟩:=hres;have HRR:=Zh hr;have f0:=hf.cell 0;simp at f0;have HR3:=Zh hR3;have HK3:=Zh hk3;have HO:=Zh ho;clear hr hf hR3 hk3 h hb1 hb2 hR2 hWk ho;go_wp2;go_ret;rw[<- HRR.out];exact⟨v,rfl,Go.Joins.ownsRow_le HO.out hWs,HR3.out,HK3.out⟩
theorem LBytesOut.later {w w1 w':World} {b:Nat} {g:Nat->Prop} {r:List UInt8×Rd} {e:Ending} (h:LBytesOut w1 b g r e w') (hk:Kept (λi=>i=b) w w1):LBytesOut w b g r e w':=by
 obtain⟨v,h1,h2,h3,h4⟩:=h;exact⟨v,h1,Go.Joins.ownsRow_le h2 hk.size,h3,hk.trans h4 λ_ _ e=>e⟩
theorem Zx4 (w:World) (b:Nat) (g:Nat->Prop) (s:Rd) (hR:IsR w b g s) (most:Int) (hm1:-9223372036854775808<=most) (hm2:most<=9223372036854775807):
  Calls Tryz.prog 105 #[at0 b,.int .i64 most] w (LBytesOut w b g (Zek s most)):=by
 have HR:=Zh hR;clear hR;have hb1:=Zle s most hm1 hm2;obtain⟨r,hr⟩:=Ze (Zek s most);rw[<- hr];unfold Zek at hr;have HRR:=Zh hr;clear hr;unfold at0;go_enter Tryz.func105,Tryz.ntmps105;go_wp2_with fail;refine(Zjw w b g s HR.out most hm1 hm2).mono ?_;rintro e w1 ⟨rfl,hI,hk⟩;have HI:=Zh hI;have HK:=Zh hk;clear hI hk;go_wp2_with fail;refine(Zmo w1 b g _ HI.out _ hb1.1 hb1.2).mono ?_;rintro e w2 ⟨v,rfl,h2,h3,h4⟩;have H2:=Zh h2;have H3:=Zh h3;have H4:=Zh h4;clear h2 h3 h4;go_wp2;go_ret;rw[HRR.out];exact LBytesOut.later ⟨v,rfl,H2.out,H3.out,H4.out⟩ HK.out
theorem Zz0 (w:World) (A:Option Addr) (n c:Nat) (l:Nm) (hl:BytesIn w A n l) (hn:n<=1099511627776):
  Calls Tryz.prog 145 #[.slice A n c] w λe w'=>∃ (b:Nat) (g:Nat->Prop),e=.returned (at0 b)/\w.heap.size<=b/\(∀ i,g i->w.heap.size<=i)/\IsR w' b g ⟨l,0,0⟩/\Below w.heap.size w w':=by
 have HL:=Zh hl;have hln:l.length=n:=by have:=hl.2.1.len;simpa using this
 have HLN:=Zh hln;clear hl hln;go_enter Tryz.func145,Tryz.ntmps145;go_wp2_with fail;refine(Ze3 w A n c l HL.out (by omega)).mono ?_;rintro e w1 ⟨v,rfl,hO,hB⟩;obtain⟨A2,c2,hv⟩:=Zac hO;subst hv;have HO:=Zh hO;have HB:=Zh hB;clear hO hB;go_wp2;go_ret;have hs:=HB.out.size;have hr:Zbs ⟨l,0,0⟩=l:=Zfj (s:=⟨l,0,0⟩) rfl;have h2:BytesIn w1 A2 n l:=BytesIn.own HO.out (by unfold maxLen;omega);have h3:=h2.below ((Ybm _ w1).alloc (Yar _) (.cells #[.slice A2 n c2,.int .i64 0] 255));have hlt:=λg hg=>HO.out.lt g hg;refine⟨w1.heap.size,λi=>w.heap.size<=i/\i<w1.heap.size,rfl,hs,λi h=>h.1,⟨⟨A2,c2,?_,?_,?_,?_⟩,λh=>by omega,λi h=>by simp;omega,⟨Ybd _⟩,?_⟩,HB.out.alloc hs _⟩
 ·rw[hr,HLN.out]
  exact Blk.new w1 _ _
 ·rw[hr,HLN.out];exact h3
 ·rw[hr,HLN.out];exact Qcq HO.out
 ·rw[hr,HLN.out]
  exact λad e _=>hlt ad.block (by rw[e];rfl)
 ·show l.length<=_
  rw[HLN.out];exact hn
end
section
open Go.RowKit Go.Maps Go.WideMaps
theorem Qeg {l:List UInt8} {s:Nat} (hl:4<=l.length) (hs:s<4294967296):l.take 4=le4 s↔s=un4 l:=by
 obtain⟨a,b,c,d,r,rfl⟩:=four hl;constructor
 ·intro h
  have h1:a :: b :: c :: d :: r=le4 s++r:=by
   rw[<- h];rfl
  rw[h1,Zy0 hs]
 ·rintro rfl
  rw[Zv1];rfl
theorem Zta {P:Program} {md:Region.Mode} {ops:Array Oper} {Q:Exit->Act->World->Prop} {S S':World->Prop} (h:∀ w,S' w->S w):∀ (fuel:Nat) (listed:Array Bool) (a:Act) (w:World),wpAnyH P md ops Q S' fuel listed a w->wpAnyH P md ops Q S fuel listed a w
 | 0,_,_,_,k=>k
 | fuel+1,_,_,_,k=>⟨k.1,λi hi=>wpOp_mono (λa' w' h'=>⟨h w' h'.1,Zta h fuel _ a' w' h'.2⟩) (k.2 i hi)⟩
set_option linter.unusedSimpArgs false in
theorem Qb1 (w:World) (A:Option Addr) (n c:Nat) (l:Nm) (hl:BytesIn w A n l) (hc:n<=c) (hn:n<=1099511627776):
  Calls Tryz.prog 144 #[.slice A n c] w (Zng w (getF l)):=by
 have HL:=Zh hl;have hln:l.length=n:=by have:=hl.2.1.len;simpa using this
 have HLN:=Zh hln;clear hl hln;obtain⟨N,k,e,hg⟩:∃ N k e,getL l=(N,k,e):=⟨_,_,_,rfl⟩
 obtain⟨G,hG⟩:=Ze (getF l);rw[<- hG];unfold getF at hG;rw[hg]at hG;simp only at hG;have HGG:=Zh hg;by_cases he:e=0
 ·subst he
  obtain⟨g1,g2,g3,g4,g5⟩:=Zby hg;rw[HLN.out]at g3;rw[Yaf (by simp)]at hG;clear hg g4;by_cases hbig:262144<N
  ·have hbz:(262144:Int)<(N:Int):=by omega
   rw[Yag hbig]at hG;have HG:=Zh hG;clear hG;go_enter Tryz.func144,Tryz.ntmps144;go_wp2_with fail;refine(Zkt w A n c l HL.out HGG.out).mono ?_;rintro e2 w2 ⟨rfl,hw⟩;rw[hw];clear hw;go_wp2;go_ret3;exact Zqd HG.out (Ybm _ _)
  have hbz:¬ (262144:Int)<(N:Int):=by omega
  rw[Yaf hbig]at hG;obtain⟨E,hE⟩:=Ze (k+4+N);have hK4:IntKind.i64.wrap ((k:Int)+4)=(k:Int)+4:=Ybo _ (by omega);have hNz:IntKind.i64.wrap (N:Int)=(N:Int):=Ybo _ (by omega);have hEz:IntKind.i64.wrap ((k:Int)+4+(N:Int))=(E:Int):=by rw[Ybo _ (by omega)];omega
  rw[<- hE,HLN.out]at hG;obtain⟨K4,hK4'⟩:=Ze (k+4);have e4:(k:Int)+4=(K4:Int):=by omega
  have e5:(K4:Int)+(N:Int)=(E:Int):=by omega
  by_cases hend:n<E
  ·have hendz:(n:Int)<(E:Int):=by omega
   rw[Yag hend]at hG;have HG:=Zh hG;clear hG hE hK4';go_enter Tryz.func144,Tryz.ntmps144;go_wp2_with fail;refine(Zkt w A n c l HL.out HGG.out).mono ?_;rintro e2 w2 ⟨rfl,hw⟩;rw[hw];clear hw;go_wp2;go_ret3;exact Zqd HG.out (Ybm _ _)
  have hendz:¬ (n:Int)<(E:Int):=by omega
  rw[Yaf hend]at hG;obtain⟨x,hx⟩:=Ze ((l.drop (k+4)).take N);obtain⟨y,hy⟩:=Ze ((l.drop k).take 4);have s3:∀ w,(Instr.slice 24 (.slice A n c) (some (.int .i64 K4)) (some (.int .i64 E)) none).run Tryz.prog w=.ok (.slice (Zak A K4 c) N (c-K4)) w:=λw=>by
   have h:=Zgu w A n c K4 E (by omega) (by omega);rw[h,show E-K4=N by omega]
  have s4:∀ w,(Instr.slice 24 (.slice A n c) (some (.int .i64 k)) (some (.int .i64 K4)) none).run Tryz.prog w=.ok (.slice (Zak A k c) 4 (c-k)) w:=λw=>by
   have h:=Zgu w A n c k K4 (by omega) (by omega);rw[h,show K4-k=4 by omega]
  have hsub:=HL.out.sub hc K4 E (by omega) (by omega);rw[show E=K4+N by omega,Zgk,Ybr,show K4=k+4 by omega,<- hx,show k+4=K4 by omega]at hsub;have HSUB:=Zh hsub;have hsub2:=HL.out.sub hc k K4 (by omega) (by omega);rw[show K4=k+4 by omega,Zgk,Ybr,<- hy]at hsub2;have HSUB2:=Zh hsub2;rw[<- hx]at hG;have HIFF:Hid (y=le4 (sumN x)↔sumN x=un4 (l.drop k)):=Zh (by rw[hy];exact Qeg (by rw[Yas];have:=HLN.out;omega) (Znt x));have HXN:Hid (x.length=N):=Zh (by rw[hx];simp;have:=HLN.out;omega);have hNl:N<=262144:=by omega
  have HG:=Zh hG;clear hG hE hK4' hsub hsub2 hx hy;go_enter Tryz.func144,Tryz.ntmps144;go_wp2_with fail;refine(Zkt w A n c l HL.out HGG.out).mono ?_;rintro e2 w2 ⟨rfl,hw⟩;rw[hw];clear hw;go_wp2_with fail;refine Yb8 (S:=λw'=>Below w.heap.size w w') (by kernel_rfl) ?_ (λhHeld=>?_)
  ·exact(Ybm _ _).drew
  refine tk 0 ?_;try simp only[Act.put,lz3,lz4,lz5]
  refine tk 1 ?_;try simp only[Act.put,lz3,lz4,lz5]
  refine tk 2 ?_;try simp only[Act.put,lz3,lz4,lz5]
  refine tk 3 ?_;try simp only[Act.put,lz3,lz4,lz5]
  refine tk 4 ?_;try simp only[Act.put,lz3,lz4,lz5]
  refine rd1 5 ?_;intro K hK;go_simp;refine(Zh2 _ _ _ _ x (HSUB.out.below hHeld)).mono ?_;rintro e w5 ⟨S,rfl,hS,hSB,hb⟩;have H5:=Zh (Zaa hHeld hb (Below.size hHeld));have SB:=Zh hSB;clear hb hS hSB;go_wp2_with fail;refine hK.out _ _ H5.out (λ_=>?_);clear hK K;refine Zta (S':=λw'=>w'=w5) (λw h=>h ▸ H5.out) _ _ _ _ ?_;have hHeld2:(λw'=>w'=w5) w5:=rfl;try simp only[Act.put,lz3,lz4,lz5]
  refine rd1 6 ?_;intro K hK;go_simp;refine(Zwr _ _ _ _ _ _ _ y (le4 (sumN x)) (HSUB2.out.below H5.out) SB.out).mono ?_;rintro e w6 ⟨rfl,hw⟩;rw[hw];clear hw w6;go_wp2_with fail;refine hK.out _ _ rfl (λ_=>?_);clear hK K;obtain⟨t,ht⟩:=Ze (decide (y=le4 (sumN x)));rw[<- ht];have HT:=Zh ht;clear ht;try simp only[Act.put,lz3,lz4,lz5]
  refine tk 7 ?_;try simp only[Act.put,lz3,lz4,lz5]
  refine Yb9 (by kernel_rfl) ?_ _;by_cases hsum:sumN x=un4 (l.drop k)
  ·have htt:t=true:=by rw[HT.out];exact Yb0 (HIFF.out.2 hsum)
   rw[htt];have hG:=HG.out;rw[Yaf (by simpa using hsum)]at hG;have HG2:=Zh hG;clear hG htt hsum;go_wp2_with fail;refine(Ze3 w5 _ _ _ x (HSUB.out.below H5.out) (by omega)).mono ?_;rintro e w7 ⟨v,rfl,hO,hb⟩;have B7:=Zh (Zaa H5.out hb H5.out.size);have O7:=Zh (Go.Joins.ownsRow_le hO H5.out.size);clear hO hb;go_wp2;go_ret3;exact gfok HG2.out B7.out (by rw[HXN.out];exact O7.out)
  ·have htt:t=false:=by rw[HT.out];exact Ybt (λh=>hsum (HIFF.out.1 h))
   rw[htt];have hG:=HG.out;rw[Yag (by simpa using hsum)]at hG;have HG2:=Zh hG;clear hG htt hsum;go_wp2;go_ret3;exact Zqd HG2.out H5.out
 ·rw[Yag he]at hG
  have HG:=Zh hG;clear hG hg;have d1:(e != 0)=true:=by simpa using he
  go_enter Tryz.func144,Tryz.ntmps144;go_wp2_with fail;refine(Zkt w A n c l HL.out HGG.out).mono ?_;rintro e2 w2 ⟨rfl,hw⟩;rw[hw];clear hw;go_wp2;go_ret3;exact Zqd HG.out (Ybm _ _)
end
section
open Go.RowKit Go.Maps Go.WideMaps Go.Shelf
def CellRows (w0 w:World) (b:Nat) (acc:List Nm):Prop:=Below w0.heap.size w0 w/\w0.heap.size<=b/\∃ v,Blk w b 27 #[v]/\RowsG w (b+1) v acc
theorem Zvf (w0 wp w:World) (b:Nat) (acc:List Nm) (x:Nm) (v:Value) (hI:CellRows w0 wp b acc) (hb:Below wp.heap.size wp w) (ho:w.ownsRow wp.heap.size 5 1 v x.length (x.map byteV)) (hx:x.length<=262144) (ha:acc.length<=1099511627776):
  Calls Tryz.prog 100 #[v,at0 b] w λe w'=>e=.returned (.tuple #[])/\CellRows w0 w' b (acc++[x]):=by
 obtain⟨i0,hi,hz0,hz1,hz2⟩:=info_parts Zgf;obtain⟨hB0,hb0,u,hblk,svs,hO,h2⟩:=hI;have hblt:=hblk.lt;have hblk':=hblk.below hb hblt;obtain⟨Au,cu,hu⟩:=Zac hO;subst hu;obtain⟨Ax,cx,hv⟩:=Zac ho;subst hv;have c0:=hblk'.cell 0;simp at c0;have hbw:w0.heap.size<=w.heap.size:=Ybu hB0.size hb.size;have HW:=Zh hbw;have HB:=Zh (Zaa hB0 hb hB0.size);have HBLK:=Zh hblk';have hsl:svs.length=acc.length:=by have:=hO.1;simpa using this
 have HSL:=Zh hsl;have HOL:=Zh (Zab hO (w':=w) λg hg=>hb.block g (hO.lt g hg).2);have HUL:Hid (∀ g,(Value.slice Au acc.length cu).ownBlock=some g->g<wp.heap.size):=Zh λg hg=>(hO.lt g hg).2;have HX:=Zh ho;have hwp:wp.heap.size<=w.heap.size:=hb.size;have hb1:b+1<=w.heap.size:=by have:=hblk'.lt;omega
 have HBLT:=Zh hblt;have H2:Hid (∀ (i:Nat) (sv:Value) (x:Nm),svs[i]?=some sv->acc[i]?=some x->∃ A c,sv=.slice A x.length c/\x.length<=c/\BytesIn w A x.length x/\∀ ad,A=some ad->0<x.length->b+1<=ad.block/\(Value.slice Au acc.length cu).ownBlock≠some ad.block):=Zh λi sv y e1 e2=>by
  obtain⟨A,c,h3,h4,h5,h6⟩:=h2 i sv y e1 e2;exact⟨A,c,h3,h4,h5.below hb,h6⟩
 have hone:∀ u∈[Value.slice Ax x.length cx],u.oneCell'=true:=by simp[Value.oneCell']
 have HONE:=Zh hone;clear hB0 hblk hO h2 hblk' hsl ho hb hbw hblt hone;unfold at0;go_enter Tryz.func100,Tryz.ntmps100;go_wp2_with (at_builtin;refine Zae _ rfl (.tmp 3) (.tmp 5) 27 rfl (b+1) 24 i0 (.slice none 0 0) 24 Tryz.underlying27 hi hz0 hz1 hz2 rfl _ acc.length svs rfl (HOL.out.alloc _) _ 1 1 _ rfl (Zlc w (.slice Ax x.length cx) rfl) HONE.out (by unfold maxLen;omega) (by omega) (by simp;omega) ?_;intro v3 w3 hown hgrow hloc;obtain⟨A3,c3,hv3⟩:=Zac hown;subst hv3;have HO3:=Zh hown;have HG3:=Zh hgrow;have HLOC:Hid ((Value.slice A3 (acc.length+1) c3).ownBlock=(Value.slice Au acc.length cu).ownBlock\/(Value.slice A3 (acc.length+1) c3).ownBlock=some (w.alloc (.cells #[.slice Ax x.length cx] 24)).heap.size):=Zh hloc;have HBK3:=Zh ((HBLK.out.alloc (.cells #[.slice Ax x.length cx] 24)).grown hgrow (λe=>by have:=(HOL.out.lt b e.symm).1;omega));have k0:=HBK3.out.cell 0;simp at k0;have z3:=HBK3.out.frozen 0;clear hown hgrow hloc);go_end0;refine⟨rfl,?_,hb0,_,HBK3.out.set_ 0 _,?_⟩
 ·have h1:=(HB.out.alloc HB.out.size (.cells #[.slice Ax x.length cx] 24)).grown HG3.out (by have:=HB.out.size;simp;omega) (λg hg=>by have:=(HOL.out.lt g hg).1;omega)
  exact⟨h1.os,h1.tape,h1.output,by rw[Zai];exact h1.size,λk hk=>(Yb5 _ _ _ k (by simp;omega)).trans (h1.block k hk)⟩
 ·have hkeep:Below w.heap.size w (w.alloc (.cells #[.slice Ax x.length cx] 24)):=(Ybm _ w).alloc (Yar _) _
  have hnew:RowsG w3 (b+1) (.slice A3 (acc.length+1) c3) (acc++[x]):=by
   refine RowsG.push (w:=w.alloc (.cells #[.slice Ax x.length cx] 24)) (v:=.slice Au acc.length cu) (svs:=svs) (λi sv y e1 e2=>?_) HSL.out (Holds1.below (Holds1.own HX.out (by unfold maxLen;omega)) hkeep) ?_ HO3.out HG3.out ?_
   ·obtain⟨A4,c4,h3,h4,h5,h6⟩:=H2.out i sv y e1 e2
    exact⟨A4,c4,h3,h4,h5.below hkeep,h6⟩
   ·intro A4 c4 ad e1 e2 _
    injection e1 with e1;subst e1;have h4:=(HX.out.lt ad.block (by rw[e2];rfl)).1;refine⟨by have:=HBLT.out;omega,λe3=>?_⟩;have h3:=HUL.out _ e3;omega
   ·rcases HLOC.out with h|h
    ·exact .inl h
    ·exact .inr ⟨_,h,Yar _⟩
  exact hnew.keep (λi h0 _=>Yb5 _ _ _ i (by simp;omega)) (by rw[Zai];exact Yar _)
def Zsi (l:Nm) (I:World->List Nm->Prop) (e:Ending) (w':World):Prop:=
 ∃ (acc:List Nm) (k:Nat) (er:Int),e=.returned (.tuple #[.int .i64 k,.int .i64 er])/\I w' acc/\Zzn l=(acc,k)/\allF l=(if er≠0 then [] else acc,er)
theorem Zw3 (f:Nat) (cap:Array Value) (eg:∀ args w,(callFunc f args).run Tryz.prog w=.ok (.enter f args) w) (w0 w:World) (A:Option Addr) (n c:Nat) (l:Nm) (hl:BytesIn w0 A n l) (hc:n<=c) (hn:n<=1099511627776)
  (I:World->List Nm->Prop) (hI0:I w []) (hIB:∀ w' acc,I w' acc->Below w0.heap.size w0 w')  (hIb:∀ w' w'' acc,I w' acc->Below w'.heap.size w' w''->I w'' acc)
  (hcl:∀ wp w' acc x v,I wp acc->Below wp.heap.size wp w'->w'.ownsRow wp.heap.size 5 1 v x.length (x.map byteV)->x.length<=262144->acc.length<=1099511627776->Calls Tryz.prog f (#[v]++cap) w' λe w''=>e=.returned (.tuple #[])/\I w'' (acc++[x])):
  Calls Tryz.prog 99 #[.slice A n c,.func (.func f) #[] cap] w (Zsi l I):=by
 have hln:l.length=n:=by have:=hl.2.1.len;simpa using this
 obtain⟨G,hG⟩:=Ze (allF l);obtain⟨H,hH⟩:=Ze (Zzn l);have HOUT:Hid (∀ acc k er e w',e=.returned (.tuple #[.int .i64 (k:Nat),.int .i64 er])->I w' acc->H=(acc,k)->G=(if er≠0 then [] else acc,er)->Zsi l I e w'):=Zh λacc k er e w' h1 h2 h3 h4=>⟨acc,k,er,h1,h2,hH ▸ h3,hG ▸ h4⟩
 have HG0:Hid (Zc4 n l []=G):=Zh (by rw[hG];unfold allF;rw[hln]);have HH0:Hid (Zfo n 0 l []=H):=Zh (by rw[hH];unfold Zzn;rw[hln]);have HL:=Zh hl;have HLN:=Zh hln;have HI0:=Zh hI0;have HIB:=Zh hIB;have HIb:=Zh hIb;have HCL:=Zh hcl;clear hl hln hG hH hI0 hIB hIb hcl;go_enter Tryz.func99,Tryz.ntmps99;go_wp2;go_loopw [6] (λs wr=>∃ (at_ q:Nat) (acc:List Nm),s=.int .i64 at_/\at_<=n/\n-at_<=q/\Zc4 q (l.drop at_) acc=G/\Zfo q at_ (l.drop at_) acc=H/\acc.length<=at_/\I wr acc) (λs _=>n-(intOf s).toNat);case atStart=>exact⟨0,n,[],rfl,by omega,by omega,HG0.out,HH0.out,by simp,HI0.out⟩
 case round=>
  obtain⟨at_,q,acc,rfl,hat,hmf,hg,hh,hacc,hi⟩:=hrel;obtain⟨r,hr0⟩:=Ze (l.drop at_);obtain⟨m,hm0⟩:=Ze (n-at_);have hsub:=HL.out.sub hc at_ n hat (Yar _);rw[show(l.take n).drop at_=r by rw[hr0,Yav (by rw[HLN.out];exact Yar _)],<- hm0]at hsub;have HR:=Zh hsub;rw[<- hr0]at hg hh;rw[<- hm0]at hmf;have HGG:=Zh hg;have HHH:=Zh hh;have HII:=Zh hi;have HB:=Zh (HIB.out _ _ hi);have hrl:r.length=m:=by have:=hsub.2.1.len;simpa using this
  have HRL:=Zh hrl;have HRD:=Zh hr0;have sA:∀ w,(Instr.slice 24 (.slice A n c) (some (.int .i64 at_)) none none).run Tryz.prog w=.ok (.slice (Zak A at_ c) m (c-at_)) w:=λw=>by rw[hm0];exact Zbf w A n c at_ hat
  have hmc:m<=c-at_:=by omega
  have hmn:at_+m=n:=by omega
  clear hr0 hm0 hsub hg hh hi hrl HG0 HH0 HL HLN;rcases Yai m with h0|hpos
  ·obtain rfl:at_=n:=by omega
   have hz:¬ ((at_:Int)<(at_:Int)):=by omega
   have hr:r=[]:=Ya0 (HRL.out.trans h0);have hfin:G=(if (0:Int)≠0 then [] else acc,0):=by rw[<- HGG.out,hr,Zmt];simp
   have hfin2:H=(acc,at_):=by rw[<- HHH.out,hr,Zo7]
   have HF:=Zh hfin;have HF2:=Zh hfin2;clear hfin hfin2 hr;go_wp2;go_ret2;exact HOUT.out acc at_ 0 _ _ rfl HII.out HF2.out HF.out
  ·have hposz:(at_:Int)<(n:Int):=by omega
   obtain⟨q',rfl⟩:∃ f',q=f'+1:=⟨q-1,by omega⟩
   have hstep:=HGG.out;have hstep2:=HHH.out;simp only[Zc4]at hstep;simp only[Zfo]at hstep2;rw[Yaf (by rw[HRL.out];omega)]at hstep hstep2;obtain⟨x,k,e,hgf⟩:∃ x k e,getF r=(x,k,e):=⟨_,_,_,rfl⟩
   rw[hgf]at hstep hstep2;simp only at hstep hstep2;have HST:=Zh hstep;have HST2:=Zh hstep2;have HGF:=Zh hgf;clear hstep hstep2 hgf;go_wp2_with fail;refine(Qb1 wr (Zak A at_ c) m (c-at_) r (HR.out.below HB.out) hmc (by omega)).mono ?_;rintro e2 w2 ⟨v2,rfl,ho2,hb2⟩;rw[HGF.out]at ho2 ⊢;simp only at ho2;have HO2:=Zh ho2;have HB2:=Zh hb2;clear ho2 hb2;by_cases he:e=0
   ·subst he
    have hst:=HST.out;rw[Yaf (by simp)]at hst;have HS:=Zh hst;have hst2:=HST2.out;rw[Yaf (by simp)]at hst2;have HS2:=Zh hst2;have hinv:=Zsd HGF.out;obtain⟨q1,q2,q3,q4⟩:=hinv;rw[HRL.out]at q2;clear hst hst2 q3;obtain⟨A2,c2,hv2⟩:=Zac HO2.out;subst hv2;have hat2:IntKind.i64.wrap ((at_:Int)+(k:Int))=((at_+k:Nat):Int):=by rw[Ybo _ (by omega)];simp
    obtain⟨at2,hA2⟩:=Ze (at_+k);rw[<- hA2]at hat2;go_wp2_with fail;refine(HCL.out wr w2 acc x _ HII.out HB2.out HO2.out q4 (by omega)).mono ?_;rintro e3 w3 ⟨rfl,hI3⟩;have HI3:=Zh hI3;clear hI3;go_wp2;go_roundw;case rel=>
     have hd:l.drop at2=r.drop k:=by rw[HRD.out,Ya1,<- hA2]
     exact⟨at2,q',acc++[x],by rw[hA2];go_num,by omega,by omega,by rw[hd];exact HS.out,by rw[hd,hA2];exact HS2.out,by rw[Yaq,Yae];omega,HI3.out⟩
    case measure=>simp[intOf];omega
   ·have hst:=HST.out
    rw[Yag he]at hst;have HS:=Zh hst;have hst2:=HST2.out;rw[Yag he]at hst2;have HS2:=Zh hst2;have d1:(e != 0)=true:=by simpa using he
    have HE:=Zh he;clear hst hst2 he;go_wp2;go_ret2;exact HOUT.out acc at_ e _ _ rfl (HIb.out _ _ _ HII.out HB2.out) HS2.out.symm (by rw[Yag HE.out];exact HS.out.symm)
theorem CellRows.start (w:World):CellRows w (w.alloc (.cells #[.slice none 0 0] 27)) w.heap.size []:=
 ⟨(Ybm _ w).alloc (Yar _) _,Yar _,_,Blk.new _ _ _,RowsG.nil _ _⟩
theorem CellRows.below {w0 w w':World} {b:Nat} {acc:List Nm} (h:CellRows w0 w b acc) (hb:Below w.heap.size w w'):CellRows w0 w' b acc:=by
 obtain⟨h1,h2,v,h3,h4⟩:=h;exact⟨Zaa h1 hb h1.size,h2,v,h3.below hb h3.lt,h4.below hb⟩
theorem Qcc (w:World) (A:Option Addr) (n c:Nat) (l:Nm) (hl:BytesIn w A n l) (hc:n<=c) (hn:n<=1099511627776):
  Calls Tryz.prog 49 #[.slice A n c] w (Zxf w (allF l)):=by
 have HL:=Zh hl;clear hl;go_enter Tryz.func49,Tryz.ntmps49;go_wp2_with fail;refine(Zw3 100 #[at0 w.heap.size] (enters_of Tryz.func100 (by kernel_rfl) rfl) w _ A n c l HL.out hc hn (λw' acc=>CellRows w w' w.heap.size acc) (CellRows.start w) (λ_ _ h=>h.1) (λ_ _ _ h k=>h.below k) (λwp w' acc x v h1 h2 h3 h4 h5=>Zvf w wp w' _ acc x v h1 h2 h3 h4 h5)).mono ?_;rintro e w2 ⟨acc,k,er,rfl,hI,_,hA⟩;obtain⟨hB,_,v,hblk,hrow⟩:=hI;have c0:=hblk.cell 0;simp at c0;have HB:=Zh hB;have HR:=Zh (hrow.rows (b:=w.heap.size) (by omega));obtain⟨_,hO,_⟩:=hrow;obtain⟨Av,cv,hv⟩:=Zac hO;subst hv;clear hblk hB hO;by_cases he:er=0
 ·subst he
  rw[Yaf (by simp)]at hA;have HA:=Zh hA;clear hA;go_wp2;go_ret2;exact alok HA.out HR.out HB.out
 ·have d1:(er != 0)=true:=by simpa using he
  rw[Yag he]at hA;have HA:=Zh hA;clear he hA;go_wp2;go_ret2;exact alok HA.out (RowsAt.nil _ _) HB.out
end
end Go.Proofs.YthcjikpabpgpfaaGreat
