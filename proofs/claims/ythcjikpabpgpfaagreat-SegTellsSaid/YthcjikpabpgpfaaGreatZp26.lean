import Derived.Test.YthcjikpabpgpfaaGreatZp22
import Derived.Deep.RegionHeld3
import Derived.Deep.DeepCutAuto
import Derived.Deep.QuietTactic
import Derived.BigQuiet
set_option linter.unusedSimpArgs false
set_option maxHeartbeats 16000000
set_option maxRecDepth 100000
namespace Go.Proofs.YthcjikpabpgpfaaGreat
open Go.RowKit Go.Maps Go.WideMaps
def Qds (w:World) (F:Nat->Prop) (l:List Pst) (e:Ending) (w':World):Prop:=∃ A c,e=.returned (.slice A l.length c)/\PostsSee w' A l.length l/\l.length<=c/\Kept F w w'
theorem Zqx {K:World->(Nat->Prop)->Nat->CSt->Prop} (hK:CurW K) {w:World} {F:Nat->Prop} {b:Nat} {l:List Pst} (hk:K w F b (Zf7 l)) (hV:ValidP l):Calls Tryz.prog 23 #[.pointer (some ⟨b,0,none⟩)] w (Qds w F l):=by
 obtain⟨i2,hi2,hx0,hx1,hx2⟩:=info_parts Zeq;have HK:=Zh hK;have HS:=Zh hk;have hfew:=hV.few;have HW0:Hid (CWF (Zf7 l)):=Zh (CWF.start hV.few λx hx=>⟨hV.some x hx,hV.spots x hx⟩);have HDOC:=Zh hV.docs;obtain⟨n,hn⟩:=Ze l.length;have HN:=Zh hn;rw[<- hn]at hfew;have hep:=λw p=>(Zr6 w p).1;clear hK hk hV hn;go_enter Tryz.func23,Tryz.ntmps23;go_wp2;clear hep;go_loopw [3,4] (λv iv wr=>∃ (i:Nat) (F' G:Nat->Prop) (s:CSt),i<=n/\iv=.int .i64 i/\K wr F' b s/\CWF s/\s.l=l/\s.at_=i/\PostsG wr G v (l.take i)/\Kept F w wr/\(∀ j,F' j->F j\/w.heap.size<=j)/\∀ j,G j->w.heap.size<=j/\j<wr.heap.size/\¬ F' j) (λ_ iv _=>n-(intOf iv).toNat);case atStart=>exact⟨0,F,λ_=>False,Zf7 l,by omega,rfl,HS.out,HW0.out,(Zgz _).1,(Zgz _).2,PostsG.nil _ _,Kept.refl _ _,λj h=>.inl h,λj h=>h.elim⟩
 case round=>
  obtain⟨i,F',G,s,hi,rfl,hks,hws,hsl,hsa,hO,hkp,hF,hG⟩:=hrel;have HKS:=Zh hks;have HWS:=Zh hws;have HO:=Zh hO;have HKP:=Zh hkp;have HF:=Zh hF;have HG:=Zh hG;have HSL:=Zh hsl;have HSA:=Zh hsa;obtain⟨Av,cv,hv,hcv⟩:=hO.slice;have htk:(l.take i).length=i:=by rw[Ycc,<- HN.out];omega
  rw[htk]at hv hcv;subst hv;have hd1:decide ((i:Int)<5000)=true:=by simp;omega
  have HDC:=Zh (HK.out.doc hks hws);clear hks hws hO hkp hF hG hsl hsa htk;rcases Yab i n with hlt|hge
  ·have hin:cIn s=true:=by unfold cIn;rw[HSL.out,HSA.out,<- HN.out];simpa using hlt
   obtain⟨x,hx⟩:=Ze (pAt l i);have hget:l[i]?=some x:=by
    rw[hx];unfold pAt;rw[Yaw,Yax (by rw[<- HN.out];exact hlt)];rfl
   have hcd:cDoc s=x.1:=by unfold cDoc;rw[HSL.out,HSA.out,Yag (by rw[<- HN.out];exact hlt),hx]
   have hcs:Zo3 s=x.2:=by unfold Zo3;rw[HSL.out,HSA.out,Yag (by rw[<- HN.out];exact hlt),hx]
   have hnl:(Zit s).l=l/\(Zit s).at_=i+1:=by
    unfold Zit;rw[(Zgz _).1,(Zgz _).2,Yag (by rw[HSL.out,HSA.out,<- HN.out];exact hlt)];exact⟨HSL.out,by simp[HSA.out]⟩
   have hxd:=HDOC.out x (Ybz hget);have HTK:Hid (l.take (i+1)=l.take i++[(x.1,x.2)]):=Zh (by rw[Ya5,hget];rfl);have HNL:=Zh hnl;rw[hin,hcd]at HDC;have HCS:=Zh hcs;have hw5:IntKind.i64.wrap ((i:Int)+1)=(i:Int)+1:=Ybo _ (by omega);obtain⟨sd,hsd⟩:=Ze x.1;obtain⟨sp,hsp⟩:=Ze x.2;rw[<- hsd]at HDC HTK hxd;rw[<- hsp]at HCS HTK;clear hin hx hget hcd hcs hnl hsd hsp;go_wp2_with fail;refine HDC.out.mono ?_;rintro e w1 ⟨rfl,hb1⟩;have HB1:=Zh hb1;have HSP:Hid (Calls Tryz.prog 27 #[.pointer (some ⟨b,0,none⟩)] w1 (Znc w1 sp)):=Zh (by
    have:=HK.out.spots (HK.out.below HKS.out hb1) HWS.out
    rw[HCS.out]at this;exact this)
   clear hb1 HDC;go_wp2_with fail;refine HSP.out.mono ?_;rintro e w2 ⟨As,cs,rfl,hps,hcs,hnew,hb2⟩;have HPS:=Zh hps;have HCSC:=Zh hcs;have HNEW:=Zh hnew;have HB2:=Zh hb2;have HB12:=Zh (Zaa HB1.out hb2 HB1.out.size);obtain⟨R,hR0,hR1,hR2,hR3⟩:=HO.out.below HB12.out;have htk:(l.take i).length=i:=by rw[Ycc,<- HN.out];omega
   rw[htk]at hR1;have HR0:=Zh hR0;have HR1:=Zh hR1;have HR2:=Zh hR2;have HR3:=Zh hR3;obtain⟨sl,hsl⟩:=Ze sp.length;have HSPL:=Zh hsl;rw[<- hsl];obtain⟨W3,hW3⟩:=Ze (w2.alloc (.cells #[.int .i64 sd,.slice As sl cs] 62));have hb3:Below w2.heap.size w2 W3:=by rw[hW3];exact(Ybm _ _).alloc (Yar _) _
   have HB3:=Zh hb3;have HBL3:Hid (Blk W3 w2.heap.size 62 #[.int .i64 sd,.slice As sl cs]):=Zh (by rw[hW3];exact Blk.new _ _ _);have HR4:=Zh (Zab hR1 λg hg=>hb3.block g (hR1.lt g hg).2);have HW3:=Zh hW3;clear hps hcs hnew hb2 hR0 hR1 hR2 hR3 htk hsl hW3 hb3 HSP;go_wp2_with (at_builtin;rw[<- HW3.out];refine wpList_append_own_at _ rfl (.tmp 21) (.tmp 26) 56 rfl 0 62 i2 _ 2 32 Tryz.underlying56 hi2 hx0 hx1 hx2 rfl (by decide) _ i _ rfl HR4.out ⟨w2.heap.size,0,none⟩ 1 1 (Zan (sd,.slice As sl cs)) rfl rfl (Zda (p:=(sd,.slice As sl cs)) HBL3.out) (Zfl _ _ _ _) (by unfold maxLen;omega) (by omega) (Ybd _) ?_;intro v3 w3 hown hgrow _ hloc;have HOWN:=Zh hown;have HGRW:=Zh hgrow;have HLOC:=Zh hloc;clear hown hgrow hloc);have hwz:=HKP.out.size;have hz1:=HB12.out.size;have hz3:=HB3.out.size;have hz4:=HGRW.out.size;have hVO:∀ g,(Value.slice Av i cv).ownBlock=some g->w.heap.size<=g/\g<wr.heap.size/\¬ F' g:=λg hg=>HG.out g (HR2.out g hg);have HVO:=Zh hVO;have hk3:∀ j,F' j->w3.heap[j]?=wr.heap[j]?:=λj hj=>by
    have hjl:=HK.out.lt HKS.out j hj;rw[HGRW.out.block j (by omega) (λe=>(hVO j e.symm).2.2 hj),HB3.out.block j (by omega),HB12.out.block j hjl]
   have HKS3:=Zh (HK.out.keep HKS.out hk3 (by omega));have HKP3:Hid (Kept F w w3):=Zh (by
    have h1:=HKP.out.trans (Kept.below (F:=F) HB12.out) (λ_ _ h=>h);have h2:=h1.trans (Kept.below (F:=F) HB3.out) (λ_ _ h=>h);exact h2.grown HGRW.out (λg hg=>.inr (HVO.out g hg).1))
   have HNXT:=Zh (HK.out.next HKS3.out HWS.out);have HPG:Hid (PostsG w3 (λj=>G j\/(wr.heap.size<=j/\j<w3.heap.size)) v3 (l.take (i+1))):=Zh (by
    rw[HTK.out];have htk:(l.take i).length=i:=by rw[Ycc,<- HN.out];omega
    have hown:=HOWN.out;rw[HSPL.out]at hown;refine PostsG.push (w0:=wr) (w:=W3) HR0.out (λg hg=>⟨HR2.out g hg,(HVO.out g hg).2.1⟩) (λa p y e1 e2=>(HR3.out a p y e1 e2).mono (λj hj hf=>⟨HB3.out.block j hj,hf⟩) HB3.out.size) (by unfold Zaj;omega) (HPS.out.below HB3.out) HCSC.out (λad e h0=>?_) (by omega) (by rw[htk];exact hown) HGRW.out HLOC.out;have:=HNEW.out ad e h0
    have:=HB1.out.size
    omega)
   clear hk3 hVO;go_wp2_with fail;refine HNXT.out.mono ?_;rintro e w4 ⟨rfl,F2,hk4,hkp4,hF2⟩;have HK4:=Zh hk4;have HKP4:=Zh hkp4;have HF2:=Zh hF2;clear hk4 hkp4 hF2;go_wp2;go_roundw;case rel=>
    refine⟨i+1,F2,λj=>G j\/(wr.heap.size<=j/\j<w3.heap.size),Zit s,by omega,by go_num,HK4.out,HWS.out.next,HNL.out.1,HNL.out.2,HPG.out.keep (λj hj hg=>HKP4.out.block j hj (λhf=>?_)) HKP4.out.size (λ_ h=>h),?_,λj hj=>?_,λj hj=>?_⟩
    ·rcases hg with hg|hg
     ·exact(HG.out j hg).2.2 hf
     ·have:=HK.out.lt HKS.out j hf;omega
    ·exact HKP3.out.trans HKP4.out λj hj hf=>(HF.out j hf).elim id λh=>by omega
    ·rcases HF2.out j hj with h|h
     ·exact HF.out j h
     ·exact .inr (by omega)
    ·have hz5:=HKP4.out.size
     have hnF:¬ F2 j:=λhf=>by
      rcases HF2.out j hf with h|h
      ·rcases hj with hj|hj
       ·exact(HG.out j hj).2.2 h
       ·have:=HK.out.lt HKS.out j h;omega
      ·rcases hj with hj|hj
       ·have:=(HG.out j hj).2.1;omega
       ·omega
     rcases hj with hj|hj
     ·have:=HG.out j hj
      exact⟨this.1,by omega,hnF⟩
     ·exact⟨by omega,by omega,hnF⟩
   case measure=>simp[intOf];omega
  ·have hin:cIn s=false:=by unfold cIn;rw[HSL.out,HSA.out,<- HN.out];simpa using hge
   rw[hin]at HDC;have hin2:i=n:=by omega
   have HI:=Zh hin2;clear hin hin2;go_wp2_with fail;refine HDC.out.mono ?_;rintro e w1 ⟨rfl,hb1⟩;have HB1:=Zh hb1;clear hb1 HDC;go_wp2;go_ret;have hO:=HO.out.below HB1.out;rw[Yav (by rw[<- HN.out,<- HI.out];exact Yar _)]at hO;rw[show i=l.length by rw[<- HN.out];exact HI.out]at hO hcv ⊢;exact⟨Av,cv,rfl,hO.see rfl (by have h1:=HN.out;have h2:=HI.out;unfold maxLen;omega),hcv,HKP.out.trans (Kept.below (F:=F) HB1.out) (λ_ _ h=>h)⟩
theorem Zzl {T:List (Int×List Pst)} (hT:(T.map Prod.fst).Pairwise (·<·)) {i:Nat} {x:Int×List Pst} (h:T[i]?=some x):Zey T x.1=some x.2:=by
 have hmem:=Ybz h;unfold Zey;cases hf:T.find? λy=>y.1==x.1 with
 | none=>
  have:=List.find?_eq_none.1 hf x hmem
  simp at this
 | some y=>
  have h1:=List.mem_of_find?_eq_some hf;have h2:y.1=x.1:=by simpa using List.find?_some hf
  have:y=x:=by
   rw[List.pairwise_map]at hT;obtain⟨a,ha,rfl⟩:=List.getElem_of_mem h1;obtain⟨b,hb,rfl⟩:=List.getElem_of_mem hmem;rcases Nat.lt_trichotomy a b with h3|h3|h3
   ·have:=Yck.1 hT a b ha hb h3;omega
   ·subst h3;rfl
   ·have:=Yck.1 hT b a hb ha h3;omega
  rw[this];rfl
theorem Zmr {S:SegSt} {K:World->(Nat->Prop)->Nat->CSt->Prop} (hS:SegOk S K) (hK:CurW K) {w:World} {F:Nat->Prop} {g dg:Nat} {D:List (Nm×Nm)} {T:List (Int×List Pst)} (h:S w F g D T) (hW:Zvd D T) (hd:Zrg w dg D T):
  Calls Tryz.prog 17 #[.pointer (some ⟨g,0,none⟩),.pointer (some ⟨dg,0,none⟩)] w λe w'=>e=.returned (.bool true)/\Below w.heap.size w w':=by
 obtain⟨A,B,cA,cB,hblk,hdocs,hterms⟩:=hd.at_;have HBK:=Zh hblk;have HDO:=Zh hdocs;have HTE:=Zh hterms;have hnd63:=hdocs.fit;have hnt63:=hterms.fit;unfold maxLen at hnd63 hnt63;have hd64:=hW.docs.1;obtain⟨nD,hnD⟩:=Ze D.length;obtain⟨nT,hnT⟩:=Ze T.length;rw[<- hnD]at HBK HDO hnd63 hd64;rw[<- hnT]at HBK HTE hnt63;have HND:=Zh hnD;have HNT:=Zh hnT;have HW:=Zh hW;have HSO:=Zh hS;have HCO:=Zh hK;have HSS:=Zh h;have hbl:=hblk.lt;have HSD:Hid (∀ u,Below w.heap.size w u->u.cell? ⟨dg,0,none⟩=some (.slice A nD cA)/\u.cell? ⟨dg,1,none⟩=some (.slice B nT cB)):=Zh (λu hu=>by
  have h0:=(HBK.out.below hu hbl).cell 0;have h1:=(HBK.out.below hu hbl).cell 1;simp only[lz0,lz1,lz2]at h0 h1;exact⟨h0,h1⟩)
 have HMN:Hid (∀ u,Below w.heap.size w u->Calls Tryz.prog 19 #[.pointer (some ⟨g,0,none⟩)] u λe w'=>e=.returned (.int .i64 (nD:Int))/\Below u.heap.size u w'):=Zh (λu hu=>by
  rw[HND.out];exact HSO.out.many (HSO.out.below HSS.out hu) HW.out)
 have hdu:((nD:Int) != (nD:Int))=false:=by simp
 clear hblk hdocs hterms hnD hnT hW hS hK h hd;go_enter Tryz.func17,Tryz.ntmps17;have HTM:Hid (∀ u,Below w.heap.size w u->Calls Tryz.prog 25 #[.pointer (some ⟨g,0,none⟩)] u (Zg6 u (T.map Prod.fst))):=Zh (λu hu=>HSO.out.terms (HSO.out.below HSS.out hu) HW.out);go_upto_region 1 with fail;refine Yb8 (S:=λw'=>w'.cell? ⟨dg,0,none⟩=some (.slice A nD cA)) (by kernel_rfl) (HSD.out w (Ybm _ _)).1 (λhHeld=>?_);obtain⟨v0,hv0⟩:=Ze w.drew;rw[<- hv0]at hHeld ⊢;have HV0:Hid (Below w.heap.size w v0):=Zh (by rw[hv0];exact(Ybm _ w).drew);have hS0:=(HSD.out _ HV0.out).1;clear hv0;refine tk 0 ?_;try simp only[Act.put,lz3,lz4,lz5]
 refine tk 2 ?_;try simp only[Act.put,lz3,lz4,lz5]
 refine tk 3 ?_;try simp only[Act.put,lz3,lz4,lz5]
 refine tk 4 ?_;try simp only[Act.put,lz3,lz4,lz5]
 refine tk 5 ?_;try simp only[Act.put,lz3,lz4,lz5]
 refine tk 6 ?_;try simp only[Act.put,lz3,lz4,lz5]
 refine rd1 1 ?sm7;case sm7=>
  intro K hK;go_simp;refine(HMN.out v0 HV0.out).mono ?_;rintro e v1 ⟨rfl,hb1⟩;have HV1:=Zh (Zaa HV0.out hb1 HV0.out.size);have hS1:=(HSD.out _ HV1.out).1;clear hb1;go_wp2_with fail;refine hK.out _ _ (HSD.out _ HV1.out).1 (λhm8=>?_);clear hK K;try simp only[Act.put,lz3,lz4,lz5]
  refine tk 7 ?_;try simp only[Act.put,lz3,lz4,lz5]
  refine Yb9 (by kernel_rfl) ?_ _;go_wp2;go_loopw [5] (λiv wr=>∃ (k:Nat) (z:Int),k<=nD+2/\iv=.int .i64 z/\z=(k:Int)-1/\Below w.heap.size w wr) (λiv _=>nD+2-(intOf iv+1).toNat);case atStart=>exact⟨0,-1,by omega,rfl,rfl,HV1.out⟩
  case round=>
   obtain⟨k,z,hk,rfl,hz,hb⟩:=hrel;have HB:=Zh hb;have HZ:=Zh hz;have hzb:-1<=z/\z<=70:=by omega
   obtain⟨c0,c1⟩:=HSD.out wr hb;have hwz:IntKind.i64.wrap (z+1)=z+1:=Ybo _ (by omega);clear hb c1;rcases Int.lt_or_le (nD:Int) z with hzn|hzn
   ·have d1:decide (z<=(nD:Int))=false:=by simp;omega
    clear hz;go_wp2_with fail;refine(HTM.out wr HB.out).mono ?_;rintro e w2 ⟨At,ct,rfl,hti,-,hb2⟩;have HTI:=Zh hti;have HB2:=Zh (Zaa HB.out hb2 HB.out.size);obtain⟨-,c1⟩:=HSD.out w2 HB2.out;have hlT:(T.map Prod.fst).length=nT:=by rw[Ybf,<- HNT.out]
    rw[hlT]at HTI ⊢;have hdt:((nT:Int) != (nT:Int))=false:=by simp
    clear hti hb2 c0 hlT;go_wp2;clear c1;go_loopw [9] (λiv wr=>∃ k:Nat,k<=nT/\iv=.int .i64 k/\Below w2.heap.size w2 wr) (λiv _=>nT-(intOf iv).toNat);case atStart=>exact⟨0,by omega,rfl,Ybm _ _⟩
    case round=>
     obtain⟨k,hk2,rfl,hb3⟩:=hrel;have HB3:=Zh hb3;have HBW:=Zh (Zaa HB2.out hb3 HB2.out.size);clear hb3;rcases Yab k nT with hkl|hkg
     ·have d2:decide ((k:Int)<(nT:Int))=true:=by simpa using hkl
      have q0:(0:Int)<=(k:Int):=by omega
      have q1:(k:Int)<(nT:Int):=by omega
      have hwk:IntKind.i64.wrap ((k:Int)+1)=(k:Int)+1:=Ybo _ (by omega);obtain⟨pb,x,xB,xc,rfl,hx,hxf,-,-,-,hxp⟩:=(HTE.out.below HBW.out).at k hkl;obtain⟨pt,y,rfl,hy,-,-,-⟩:=(HTI.out.below HB3.out).at k hkl;have hyx:y=x.1:=by
       rw[Ych,hx]at hy;simpa using hy.symm
      have hgood:=HW.out.good x (Ybz hx);have HVP0:=Zh hgood.1;have HPT:=Zh (Zzl HW.out.up hx);have HSEx:Hid (∀ u,Below wr.heap.size wr u->∃ xB xc,u.cell? ⟨dg,1,none⟩=some (.slice (some pb) nT cB)/\u.cell? (pt.add k)=some (.int .i64 x.1)/\u.cell? (pb.add (k*2))=some (.int .i64 x.1)/\u.cell? ⟨(pb.add (k*2)).block,(pb.add (k*2)).off+1,none⟩=some (.slice xB x.2.length xc)/\PostsSee u xB x.2.length x.2):=Zh (λu hu=>by
       obtain⟨pb',x',xB',xc',e1,hx',-,a0,a1,-,a2⟩:=(HTE.out.below (Zaa HBW.out hu HBW.out.size)).at k hkl;obtain rfl:=Ya9 e1;obtain rfl:=Ya9 (hx.symm.trans hx');obtain⟨pt',y',e2,hy',b0,-,-⟩:=(HTI.out.below (Zaa HB3.out hu HB3.out.size)).at k hkl;obtain rfl:=Ya9 e2;obtain rfl:=Ya9 (hy.symm.trans hy');exact⟨xB',xc',(HSD.out u (Zaa HBW.out hu HBW.out.size)).2,by rw[<- hyx];exact b0,a0,a1,a2⟩)
      obtain⟨xB,xc,-,-,-,s4,s5⟩:=HSEx.out wr (Ybm _ _);obtain⟨P,hP⟩:=Ze x.2;rw[<- hP]at s4;have HPR:Hid (PostsSee wr xB P.length P):=Zh (by rw[hP];exact s5);have HVP:Hid (ValidP P):=Zh (by rw[hP];exact HVP0.out);have HSE:Hid (∀ u,Below wr.heap.size wr u->u.cell? ⟨dg,1,none⟩=some (.slice (some pb) nT cB)/\u.cell? (pt.add k)=some (.int .i64 y)/\u.cell? (pb.add (k*2))=some (.int .i64 y)/\u.cell? ⟨(pb.add (k*2)).block,(pb.add (k*2)).off+1,none⟩=some (.slice xB P.length xc)):=Zh (λu hu=>by
       obtain⟨xB',xc',a1,a2,a3,a4,-⟩:=HSEx.out u hu;have a5:=(Zag hu s4).symm.trans a4;rw[hyx];refine⟨a1,a2,a3,?_⟩;exact Zag hu s4)
      have HCU:Hid (∀ u,Below wr.heap.size wr u->Calls Tryz.prog 24 #[.pointer (some ⟨g,0,none⟩),.int .i64 y] u λe w'=>Below u.heap.size u w'/\∃ b F,e=.returned (.pointer (some ⟨b,0,none⟩))/\K w' F b (Zf7 P)/\∀ i,F i->u.heap.size<=i):=Zh (λu hu=>by
       have h1:=HSO.out.cursor (HSO.out.below HSS.out (Zaa HBW.out hu HBW.out.size)) HW.out y (by rw[hyx];exact hxf);rw[hyx,HPT.out,<- hP]at h1;rw[hyx];exact h1)
      have d3:(y != y)=false:=by simp
      clear hx hxf hxp hy hyx hgood s4 s5 hP HSEx HVP0 HPT;go_upto_region 15 with fail;refine Yb8 (S:=λw'=>w'.cell? ⟨dg,1,none⟩=some (.slice (some pb) nT cB)/\w'.cell? (pt.add k)=some (.int .i64 y)/\w'.cell? (pb.add (k*2))=some (.int .i64 y)/\w'.cell? ⟨(pb.add (k*2)).block,(pb.add (k*2)).off+1,none⟩=some (.slice xB P.length xc)) (by kernel_rfl) (HSE.out wr (Ybm _ _)) (λhHeld=>?_);obtain⟨v0,hv0⟩:=Ze wr.drew;rw[<- hv0]at hHeld ⊢;have HV0:Hid (Below wr.heap.size wr v0):=Zh (by rw[hv0];exact(Ybm _ wr).drew);have hS0:=HSE.out _ HV0.out;clear hv0;refine tk 0 ?_;(try simp only[Act.put,lz3,lz4,lz5]);refine tk 1 ?_;(try simp only[Act.put,lz3,lz4,lz5]);refine tk 4 ?_;(try simp only[Act.put,lz3,lz4,lz5]);refine tk 8 ?_;(try simp only[Act.put,lz3,lz4,lz5]);refine tk 2 ?_;(try simp only[Act.put,lz3,lz4,lz5]);refine tk 5 ?_;(try simp only[Act.put,lz3,lz4,lz5]);refine tk 3 ?_;(try simp only[Act.put,lz3,lz4,lz5]);refine tk 6 ?_;(try simp only[Act.put,lz3,lz4,lz5]);refine tk 7 ?_;(try simp only[Act.put,lz3,lz4,lz5]);refine tk 9 ?_;(try simp only[Act.put,lz3,lz4,lz5]);refine tk 10 ?_;(try simp only[Act.put,lz3,lz4,lz5]);refine tk 11 ?_;(try simp only[Act.put,lz3,lz4,lz5]);refine tk 12 ?_;(try simp only[Act.put,lz3,lz4,lz5]);refine tk 13 ?_;(try simp only[Act.put,lz3,lz4,lz5]);refine tk 14 ?_;(try simp only[Act.put,lz3,lz4,lz5]);refine tk 15 ?_;(try simp only[Act.put,lz3,lz4,lz5]);refine tk 16 ?_;(try simp only[Act.put,lz3,lz4,lz5]);refine tk 21 ?_;(try simp only[Act.put,lz3,lz4,lz5]);refine tk 25 ?_;(try simp only[Act.put,lz3,lz4,lz5]);refine tk 17 ?_;(try simp only[Act.put,lz3,lz4,lz5]);refine tk 22 ?_;(try simp only[Act.put,lz3,lz4,lz5]);refine tk 18 ?_;(try simp only[Act.put,lz3,lz4,lz5]);refine tk 23 ?_;(try simp only[Act.put,lz3,lz4,lz5]);refine tk 24 ?_;(try simp only[Act.put,lz3,lz4,lz5]);refine tk 26 ?_;(try simp only[Act.put,lz3,lz4,lz5]);refine tk 27 ?_;(try simp only[Act.put,lz3,lz4,lz5]);refine tk 28 ?_;(try simp only[Act.put,lz3,lz4,lz5]);refine rd1 19 ?sp28;case sp28=>
       intro K hK;go_simp;refine(HCU.out v0 HV0.out).mono ?_;rintro e v1 ⟨hb1,cb,F1,rfl,hk1,hF1⟩;have HK1:=Zh hk1;have HF1:=Zh hF1;have HV1:=Zh (Zaa HV0.out hb1 HV0.out.size);have hS1:=HSE.out _ HV1.out;clear hk1 hb1 hF1;go_wp2_with fail;refine hK.out _ _ (HSE.out _ HV1.out) (λhp29=>?_);clear hK K;(try simp only[Act.put,lz3,lz4,lz5]);refine rd1 20 ?sp30;case sp30=>
        intro K hK;go_simp;refine(Zqx HCO.out HK1.out HVP.out).mono ?_;rintro e v2 ⟨A2,k2,rfl,hp2,-,hkp2⟩;have HP2:=Zh hp2;have HV2:Hid (Below wr.heap.size wr v2):=Zh (HV1.out.trans (hkp2.toBelow HV1.out.size (λj hj=>Ybu HV0.out.size (HF1.out j hj))));have hS2:=HSE.out _ HV2.out;clear hp2 hkp2;go_wp2_with fail;refine hK.out _ _ (HSE.out _ HV2.out) (λhp31=>?_);clear hK K;(try simp only[Act.put,lz3,lz4,lz5]);refine rd1 29 ?sp32;case sp32=>
         intro K hK;go_simp;have hss:=Zt3 v2 A2 xB P.length P.length k2 xc P P HP2.out (HPR.out.below HV2.out);rw[show decide (P=P)=true by simp]at hss;have HSM:=Zh hss;clear hss;refine HSM.out.mono ?_;rintro e v3 ⟨rfl,q3,hv3⟩;have HV3:Hid (Below wr.heap.size wr v3):=Zh (by rw[hv3];exact Zaf HV2.out q3);have hS3:=HSE.out _ HV3.out;clear hv3;go_wp2_with fail;refine hK.out _ _ (HSE.out _ HV3.out) (λhp33=>?_);clear hK K;(try simp only[Act.put,lz3,lz4,lz5]);refine tk 30 ?_;(try simp only[Act.put,lz3,lz4,lz5]);refine tk 31 ?_;(try simp only[Act.put,lz3,lz4,lz5]);refine Yb9 (by kernel_rfl) ?_ _;go_wp2;go_roundw;case rel=>exact⟨k+1,by omega,by go_num,Zaa HB3.out HV3.out HB3.out.size⟩
         case measure=>simp[intOf];omega
     ·obtain rfl:k=nT:=by omega
      have hlz:¬ ((k:Int)<(k:Int)):=by omega
      go_wp2;go_ret;exact⟨rfl,HBW.out⟩
   ·have d1:decide (z<=(nD:Int))=true:=by simpa using hzn
    have HDC:Hid (Calls Tryz.prog 20 #[.pointer (some ⟨g,0,none⟩),.int .i64 z] wr λe w'=>e=.returned (.tuple #[.agg #[.string ⟨(Zim D z).1.toArray⟩,.string ⟨(Zim D z).2.toArray⟩],.bool (decide (0<=z/\z<(nD:Int)))])/\Below wr.heap.size wr w'):=Zh (by
     rw[HND.out];exact HSO.out.doc (HSO.out.below HSS.out HB.out) HW.out z (by unfold Zaj;omega))
    obtain⟨X,hX⟩:=Ze (Zim D z);rw[<- hX]at HDC;have HX:=Zh hX;obtain⟨xk,xt⟩:=X;simp only at HDC;clear hz hX;go_wp2_with fail;refine HDC.out.mono ?_;rintro e w2 ⟨rfl,hb2⟩;obtain⟨W3,hW3⟩:=Ze (w2.alloc (.cells #[.string ⟨xk.toArray⟩,.string ⟨xt.toArray⟩] 49));have hb3:Below w2.heap.size w2 W3:=by rw[hW3];exact(Ybm _ _).alloc (Yar _) _
    have HB3:=Zh (Zaa HB.out (Zaa hb2 hb3 hb2.size) HB.out.size);have hbx:Blk W3 w2.heap.size 49 #[.string ⟨xk.toArray⟩,.string ⟨xt.toArray⟩]:=by rw[hW3];exact Blk.new _ _ _
    obtain⟨xb,hxb⟩:=Ze w2.heap.size;rw[<- hxb]at hbx;have x0:∀ q,(W3.drewN q).cell? ⟨xb,0,none⟩=some (.string ⟨xk.toArray⟩):=λ_=>hbx.cell 0;have x1:∀ q,(W3.drewN q).cell? ⟨xb,1,none⟩=some (.string ⟨xt.toArray⟩):=λ_=>hbx.cell 1;have y0:∀ q,(W3.drewN q).cell? ⟨dg,0,none⟩=some (.slice A nD cA):=λ_=>(HSD.out W3 HB3.out).1;have HXB:=Zh hxb;have HW3:=Zh hW3;clear hb2 hb3 hbx hxb hW3 c0 HDC;rcases Int.lt_or_le z 0 with hz0|hz0
    ·have e1:decide (0<=z/\z<(nD:Int))=false:=by simp;omega
     have e2:decide ((0:Int)<=z)=false:=by simp;omega
     have e3:(false != false)=false:=rfl;rw[e1];go_upto_region 7 with fail;rw[<- HW3.out,<- HXB.out];go_quiet (fail);go_wp2;go_roundw;case rel=>exact⟨k+1,z+1,by have:=HZ.out;omega,by go_num,by have:=HZ.out;omega,by first|exact Zaf HB3.out _|exact HB3.out⟩
     case measure=>simp[intOf];have:=HZ.out;omega
    ·obtain⟨j,hj⟩:∃ j:Nat,(j:Int)=z:=⟨z.toNat,by omega⟩
     subst hj;rcases Yab j nD with hjn|hjn
     ·have e1:decide (0<=(j:Int)/\(j:Int)<(nD:Int))=true:=by simp;omega
      have e2:decide ((0:Int)<=(j:Int))=true:=by simp
      have e4:decide ((j:Int)<(nD:Int))=true:=by simpa using hjn
      have e3:(true != true)=false:=rfl;have p0:(0:Int)<=(j:Int):=by omega
      have p1:(j:Int)<(nD:Int):=by omega
      rw[e1];obtain⟨pa,p,rfl,hp,a0,a1,-,-⟩:=(HDO.out.below HB3.out).at j hjn;have hpx:p=(xk,xt):=by
       rw[HX.out];unfold Zim;rw[Yag ⟨by omega,by rw[<- HND.out];omega⟩,Yb3,Yaw,hp];rfl
      subst hpx;have a0w:∀ q,(W3.drewN q).cell? (pa.add (j*2))=some (.string ⟨xk.toArray⟩):=λ_=>a0;have a1w:∀ q,(W3.drewN q).cell? ⟨(pa.add (j*2)).block,(pa.add (j*2)).off+1,none⟩=some (.string ⟨xt.toArray⟩):=λ_=>a1;have hne:=λw=>Qfi (xk,xt) (xk,xt) (r:=true) (by simp) w;simp only at hne;clear hp a0 a1;go_upto_region 7 with fail;rw[<- HW3.out,<- HXB.out];go_quiet (fail);go_wp2;go_roundw;case rel=>exact⟨k+1,(j:Int)+1,by have:=HZ.out;omega,by go_num,by have:=HZ.out;omega,by first|exact Zaf HB3.out _|exact HB3.out⟩
      case measure=>simp[intOf];have:=HZ.out;omega
     ·have e1:decide (0<=(j:Int)/\(j:Int)<(nD:Int))=false:=by simp;omega
      have e2:decide ((0:Int)<=(j:Int))=true:=by simp
      have e4:decide ((j:Int)<(nD:Int))=false:=by simpa using hjn
      have e5:decide (j<nD)=false:=by simpa using hjn
      have e6:¬ (j:Int)<(nD:Int):=by omega
      have e3:(false != false)=false:=rfl;rw[e1];go_upto_region 7 with fail;rw[<- HW3.out,<- HXB.out];go_quiet (fail);go_wp2;go_roundw;case rel=>exact⟨k+1,(j:Int)+1,by have:=HZ.out;omega,by go_num,by have:=HZ.out;omega,by first|exact Zaf HB3.out _|exact HB3.out⟩
      case measure=>simp[intOf];have:=HZ.out;omega
end Go.Proofs.YthcjikpabpgpfaaGreat
