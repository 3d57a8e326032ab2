import Derived.Test.YthcjikpabpgpfaaGreatZp28
import Derived.Deep.RegionHeld3
import Derived.Test.YthcjikpabpgpfaaGreatZp27
import Derived.Test.YthcjikpabpgpfaaGreatZp26
import Derived.Deep.QuietTactic
import Derived.BigQuiet
set_option linter.unusedSimpArgs false
set_option maxHeartbeats 16000000
set_option maxRecDepth 100000
namespace Go.Proofs.YthcjikpabpgpfaaGreat
section
open Go.RowKit Go.Maps Go.WideMaps
theorem zeroCoder:Tryz.zeroCells92.size=259/\Tryz.zeroCells92[0]?=some (.slice none 0 0):=⟨by kernel_rfl,by kernel_rfl⟩
theorem Zoy:(List.range 256).map (λc=>Tryz.zeroCells92[2+c]?)=List.replicate 256 (some (.int .i64 0)):=by kernel_rfl
theorem Zq6 {c:Nat} (hc:c<256):Tryz.zeroCells92[2+c]?=some (.int .i64 0):=by
 have h:((List.range 256).map (λc=>Tryz.zeroCells92[2+c]?))[c]?=(List.replicate 256 (some (Value.int .i64 0)))[c]?:=by rw[Zoy]
 rw[Ych,Ycd hc,List.getElem?_replicate,Yag hc]at h;exact Ya9 h
theorem Qdm (w:World) (A B:Option Addr) (n m ca cb:Nat) (V:Voc) (hV:VocSee w A B n m ca cb V) (hO:VOk V):
  Calls Tryz.prog 13 #[vocV A B n m ca cb] w λe w'=>∃ b,e=.returned (at0 b)/\Below w.heap.size w w'/\Coder w' b V:=by
 have b1:Below w.heap.size w (w.alloc (.cells #[.slice A n ca,.slice B m cb] 30)):=(Ybm _ w).alloc (Yar _) _;have hck:=Zvc _ A B n m ca cb V (hV.below b1);rw[hO.check]at hck;have HCK:=Zh hck;have HB1:=Zh b1;have HV:=Zh hV;have HO:=Zh hO;clear hV hck b1 hO;unfold vocV at HCK ⊢;go_enter Tryz.func13,Tryz.ntmps13;go_wp2_with fail;refine HCK.out.mono ?_;rintro e w2 ⟨rfl,hb2⟩;have HB2:=Zh (Zaa HB1.out hb2 HB1.out.size);have hbox:Blk w2 w.heap.size 30 #[.slice A n ca,.slice B m cb]:=(Blk.new w _ _).below hb2 (by simp);have HBOX:=Zh hbox;obtain⟨k0,k1⟩:=Zam hbox;have HV2:=Zh (HV.out.below HB2.out);clear hb2 hbox;go_wp2_with fail;refine(Zrf w2 B m cb V.mer HV2.out.mer (by have:=HO.out.ml;have:=HV2.out.mer.len;omega)).mono ?_;rintro e w3 ⟨v3,rfl,ho3,hb3⟩;obtain⟨A3,c3,rfl⟩:=Zac ho3;have HO3:=Zh ho3;have HB3:=Zh (Zaa HB2.out hb3 HB2.out.size);have HB23:=Zh hb3;have HV3:=Zh (HV2.out.below hb3);have HBOX3:=Zh (HBOX.out.below hb3 HBOX.out.lt);obtain⟨k0',k1'⟩:=Zam HBOX3.out;obtain⟨CS,hCS⟩:=Ze ((Tryz.zeroCells92.setIfInBounds 1 (Value.slice A3 m c3)).setIfInBounds 258 (Value.map (some w3.heap.size)));obtain⟨W4,hW4⟩:=Ze ((w3.alloc (.map #[] 0)).alloc (.cells CS 92));have hb4:Below w3.heap.size w3 W4:=by rw[hW4];exact((Ybm _ w3).alloc (Yar _) _).alloc (by simp) _
 obtain⟨b,hbn⟩:=Ze (w3.heap.size+1);have hml:V.mer.length=m:=HV3.out.mer.len;have htl:V.tok.length=n:=HV3.out.tok.len;have hCB:CB w2 W4 V b w3.heap.size 0 0 0 (.slice none 0 0) (.slice A3 m c3) (.map []) CS:={
  below:=Zaa HB23.out hb4 HB23.out.size
  new:=by have:=HB23.out.size;omega
  blk:=by
   rw[hW4,hbn];have:=Blk.new (w3.alloc (.map #[] 0)) 92 CS
   simpa using this
  size:=by rw[hCS,Array.size_setIfInBounds,Array.size_setIfInBounds];exact zeroCoder.1
  c0:=by rw[hCS,Ycp,Yaf (by omega),Ycp,Yaf (by omega)];exact zeroCoder.2
  c1:=by rw[hCS,Ycp,Yaf (by omega),Ycp,Yag rfl,Yag (by rw[zeroCoder.1];omega)]
  cB:=λc hc=>by rw[hCS,Ycp,Yaf (by omega),Ycp,Yaf (by omega),Zq6 hc];rfl
  cM:=by rw[hCS,Ycp,Yag rfl,Yag (by simp[zeroCoder.1])]
  rows:=RowsG.nil _ _
  mrow:=by
   have h1:W4.ownsRow w2.heap.size 88 3 (.slice A3 m c3) m (V.mer.flatMap Zav):=by rw[hW4];exact(HO3.out.alloc _).alloc _
   rw[hml];exact h1
  map:=by
   rw[hW4];exact(World.ownsMap_made w3 _ _ _).alloc _
  isR:=RankMap.nil
  bpn:=⟨HB23.out.size,by omega⟩ }
 have hmm:=@run_makeMap Tryz.prog;have k2:W4.cell? ⟨w.heap.size,0,none⟩=some (.slice A n ca):=(Zam (HBOX3.out.below hb4 HBOX3.out.lt)).1;rw[hW4,hCS]at k2;have HCB:=Zh hCB;have HBN:=Zh hbn;have HW4:=Zh hW4;have HCS:=Zh hCS;have HML:=Zh hml;have HTL0:=Zh htl;have HBOX4:=Zh (HBOX3.out.below hb4 HBOX3.out.lt);have HB34:=Zh hb4;have hn5:n<=512:=by have:=HO.out.tl;omega
 have hm5:m<=512:=by have:=HO.out.ml;omega
 obtain⟨i0,hi,hz0,hz1,hz2⟩:=info_parts Zgf;clear ho3 hb3 k0 k1 k0' k1' hCB hbn hW4 hCS hml htl hb4;go_wp2_with fail;rw[<- HCS.out,<- HW4.out,<- HBN.out];clear k2 hmm;go_loopw [20] (λi wr=>∃ (j:Nat) (tv:Value) (cs:Array Value),j<=n/\i=.int .i64 (j:Nat)/\CB w2 wr V b w3.heap.size j j 0 tv (.slice A3 m c3) (.map []) cs) (λi _=>n-(intOf i).toNat);case atStart=>exact⟨0,_,_,Ybd _,rfl,HCB.out⟩
 case round=>
  obtain⟨j,tv,cs,hj,rfl,hR⟩:=hrel;rcases Yab j n with hlt|hge
  ·have HR:=Zh hR
   have hx:V.tok[j]?=some (V.tok[j]'(by rw[HTL0.out];exact hlt)):=Yax _;obtain⟨x,hxe⟩:=Ze (V.tok[j]'(by rw[HTL0.out];exact hlt));rw[<- hxe]at hx;obtain⟨adt,Bt,ct,e1,tc0,hct,hbt0⟩:=HV2.out.tok.at_ j x hx;subst e1;have tc:=Zag hR.below tc0;have hbt:=hbt0.below hR.below;have HBT0:=Zh hbt0;have hx16:=HO.out.short x (Ybz hx);have htk:V.tok.take (j+1)=V.tok.take j++[x]:=by rw[Ya5,hx];rfl
   have htl:(V.tok.take j).length=j:=by rw[Ycc,HTL0.out];omega
   have HXL:=Zh hx16.2;have HTK:=Zh htk;have HTL:=Zh htl;have HTV:=Zh (λg e=>(hR.rows.lt g e).2:∀ g,tv.ownBlock=some g->g<wr.heap.size);have HTB:=Zh hR.tvb;have HBT:=Zh hbt;have HX:=Zh hx;have hjn:(j:Int)<(n:Int):=by omega
   have hjz:(0:Int)<=(j:Int):=by omega
   clear hR hx hxe hx16 htk htl hbt tc0 hbt0;go_wp2_with fail;clear tc;refine Yb8 (S:=λ_=>True) (by kernel_rfl) trivial (λhHeld=>?_);obtain⟨u0,hu0⟩:=Ze wr.drew;rw[<- hu0];have hb0:Below wr.heap.size wr u0:=by rw[hu0];exact(Ybm _ wr).drew
   have HR0:=Zh (HR.out.then hb0);have HX0:=Zh (HBT.out.below hb0);have HSZu0:=Zh hb0.size;clear hu0 hb0;refine tk 0 ?_;(try simp only[Act.put,lz3,lz4,lz5]);refine tk 1 ?_;(try simp only[Act.put,lz3,lz4,lz5]);refine tk 5 ?_;(try simp only[Act.put,lz3,lz4,lz5]);refine tk 2 ?_;(try simp only[Act.put,lz3,lz4,lz5]);refine tk 3 ?_;(try simp only[Act.put,lz3,lz4,lz5]);refine rd2 4 6 ?st6 ?st7;case st6=>
    intro K hK;have yq1:u0.cell? ⟨b,0,none⟩=some tv:=by rw[HR0.out.blk.cell];exact HR0.out.c0
    go_simp;clear yq1;refine hK.out _ _ trivial (λht8=>?_);clear hK K;(try simp only[Act.put,lz3,lz4,lz5]);refine rd1 6 ?st9;case st9=>
     intro K hK;go_simp;refine(Ze3 u0 Bt x.length ct x HX0.out (by have:=HXL.out;omega)).mono ?_;rintro eq6 uq2 ⟨v,rfl,oq7,hq3⟩;obtain⟨Aq8,cq9,rfl⟩:=Zac oq7;have Hq10:Hid (Holds1 uq2 (.slice Aq8 x.length cq9) x):=Zh (Holds1.own oq7 (by have:=HXL.out;unfold maxLen;omega));have Hq10b:Hid (∀ ad,Aq8=some ad->0<x.length->u0.heap.size<=ad.block/\ad.block<uq2.heap.size):=Zh (λad e _=>oq7.lt ad.block (by rw[e];rfl));have Rq4:=Zh (HR0.out.then hq3);clear oq7 hq3;go_wp2_with fail;refine hK.out _ _ trivial (λht10=>?_);clear hK K;(try simp only[Act.put,lz3,lz4,lz5]);refine rd1 7 ?st11;case st11=>
      intro K hK;go_simp;obtain⟨uq11,huq12⟩:=Ze (uq2.alloc (.cells #[.slice Aq8 x.length cq9] 24));have Nq15:Hid (Blk uq11 uq2.heap.size 24 #[.slice Aq8 x.length cq9]):=Zh (by rw[huq12];exact Blk.new _ _ _);rw[<- huq12];have hbq13:Below uq2.heap.size uq2 uq11:=by rw[huq12];exact(Ybm _ uq2).alloc (Yar _) _
      have Hq16:=Zh (Hq10.out.below hbq13);have Hq16b:Hid (∀ ad,Aq8=some ad->0<x.length->b+1<=ad.block/\tv.ownBlock≠some ad.block):=Zh (λad e h0=>by
       have h1:=Hq10b.out ad e h0;have h2:=HR.out.blk.lt;have h3:=HSZu0.out;exact⟨by omega,λe2=>by have:=HTV.out _ e2;omega⟩)
      have Rq14:=Zh (Rq4.out.then hbq13);clear huq12 hbq13;refine hK.out _ _ trivial (λht12=>?_);clear hK K;(try simp only[Act.put,lz3,lz4,lz5]);refine rd1 8 ?st13;case st13=>
       intro K hK;obtain⟨svsq23,hoq24,hsq25⟩:=Rq14.out.rows;rw[HTL.out]at hoq24;refine Zbq _ rfl (.tmp 29) (.tmp 32) 27 rfl (b+1) 24 i0 (.slice none 0 0) 1 24 Tryz.underlying27 hi hz0 hz1 hz2 rfl (by omega) tv j svsq23 rfl hoq24 (some ⟨uq2.heap.size,0,none⟩) 1 1 [.slice Aq8 x.length cq9] rfl ⟨rfl,λad e j u hu=>by cases e;rw[Zaz,Nq15.out.cell];simpa using hu,λe=>by cases e⟩ (by simp[Value.oneCell']) (by unfold maxLen;omega) (by omega) Rq14.out.blk.lt ?_;intro v' uq17 hwq18 hgq19 hlq20;have Gq26:=Zh (RowsG.push (w:=uq11) (v:=tv) (L:=V.tok.take j) (x:=x) hsq25 (by have:=hoq24.1;rw[HTL.out];simpa using this) Hq16.out (λA c ad e1 e2 e3=>by cases e1;exact Hq16b.out ad e2 e3) (by rw[HTL.out];exact hwq18) hgq19 (hlq20.imp id λh=>⟨_,h,Yar _⟩));obtain⟨Aq21,cq22,rfl⟩:=Zac hwq18;have Gq26n:Hid (b≠(Value.slice Aq21 (j+1) cq22).ownBlock.getD (b+1)):=Zh (by
        cases hq:(Value.slice Aq21 (j+1) cq22).ownBlock with
        | none=>simp
        | some g=>have:=(hwq18.lt g hq).1;simp;omega)
       have Gq26g:=Zh hgq19;clear hwq18 hlq20 hoq24 hsq25;refine hK.out _ _ trivial (λht14=>?_);clear hK K;(try simp only[Act.put,lz3,lz4,lz5]);refine tk 9 ?_;(try simp only[Act.put,lz3,lz4,lz5]);refine tk 10 ?_;(try simp only[Act.put,lz3,lz4,lz5]);refine rd1 11 ?st17;case st17=>
        intro K hK;have Bq30:=Rq14.out.blk.grown Gq26g.out (λe=>HTB.out e.symm);have yq27:uq17.cell? ⟨b,0,none⟩=some tv:=by rw[Bq30.cell];exact Rq14.out.c0
        have zq28:=Bq30.frozen 0;go_simp;clear yq27 zq28 Bq30;have Fq29:=Zh (Rq14.out.setTok (x:=x) Gq26g.out HTK.out (v':=(.slice Aq21 (j+1) cq22)) Gq26.out);refine hK.out _ _ trivial (λht18=>?_);clear hK K;(try simp only[Act.put,lz3,lz4,lz5]);refine Yb9 (by kernel_rfl) ?_ _;obtain⟨W5,hW5⟩:=Ze ((uq17.setCell ⟨b,0,none⟩ (.slice Aq21 (j+1) cq22)));have H5:=Fq29.out;rw[<- hW5]at H5 ⊢;have HR5:=Zh H5;clear hW5 H5 hHeld;by_cases h1:x.length=1
        ·obtain⟨hj256,hxx⟩:=Zgi HO.out HX.out h1
         have hcB:=HR5.out.cB j hj256;have d1:W5.cell? ⟨b,2+j,none⟩=some (.int .i64 ((if j<j then j else 0:Nat):Int)):=by rw[HR5.out.blk.cell];exact hcB
         have z1:=HR5.out.blk.frozen (2+j);obtain⟨adb,y,e1,hy,yc⟩:=(HBT0.out.below HR5.out.below).at 0 (by omega);subst e1;have yc0:W5.cell? adb=some (.int .u8 (y.toNat:Int)):=by simpa[Addr.add]using yc
         have hyj:y.toNat=j:=by
          rw[hxx]at hy;simp at hy;rw[<- hy];exact Yaa (by show _<256;omega)
         rw[hyj]at yc yc0;have hl1:((x.length:Int)==1)=true:=by rw[h1];rfl
         have hlN:0<x.length:=by omega
         have hl0:(0:Int)<(x.length:Int):=by omega
         have hj1:(j:Int)<256:=by omega
         have HJ:=Zh hj256;clear hcB hxx hy hyj hj256 h1;go_wp2_with fail;go_still_tail 8,(by kernel_rfl);change wpList _ _ _ _ _ W5.drew;go_wp2_with fail;obtain⟨W6,hW6⟩:=Ze ((W5.setCell ⟨b,2+j,none⟩ (.int .i64 (j:Nat))).drew);have hb6:Below W5.heap.size W5 W5:=Ybm _ _;have HR6:=Zh ((HR5.out.setSingle HJ.out).then (w':=W6) (by rw[hW6];exact(Ybm _ _).drew));rw[<- hW6];clear hW6 hb6 d1 z1 yc yc0;go_roundw;case rel=>exact⟨j+1,_,_,by omega,by go_num,HR6.out⟩
         case measure=>simp[intOf];omega
        ·have hj256:256<=j:=by
          rcases Yab j 256 with h|h
          ·have h2:=HO.out.single j h
           rw[HX.out]at h2;cases h2
           exact absurd rfl h1
          ·exact h
         have hl1:((x.length:Int)==1)=false:=by simp;omega
         have HR6:=Zh (HR5.out.skip hj256);clear h1;go_wp2_with fail;go_roundw;case rel=>exact⟨j+1,_,_,by omega,by go_num,HR6.out⟩
         case measure=>simp[intOf];omega
   case st7=>
    intro K hK;go_simp;refine(Ze3 u0 Bt x.length ct x HX0.out (by have:=HXL.out;omega)).mono ?_;rintro eq35 uq31 ⟨v,rfl,oq36,hq32⟩;obtain⟨Aq37,cq38,rfl⟩:=Zac oq36;have Hq39:Hid (Holds1 uq31 (.slice Aq37 x.length cq38) x):=Zh (Holds1.own oq36 (by have:=HXL.out;unfold maxLen;omega));have Hq39b:Hid (∀ ad,Aq37=some ad->0<x.length->u0.heap.size<=ad.block/\ad.block<uq31.heap.size):=Zh (λad e _=>oq36.lt ad.block (by rw[e];rfl));have Rq33:=Zh (HR0.out.then hq32);clear oq36 hq32;go_wp2_with fail;refine hK.out _ _ trivial (λht19=>?_);clear hK K;(try simp only[Act.put,lz3,lz4,lz5]);refine rd2 4 7 ?st20 ?st21;case st20=>
     intro K hK;have yq40:uq31.cell? ⟨b,0,none⟩=some tv:=by rw[Rq33.out.blk.cell];exact Rq33.out.c0
     go_simp;clear yq40;refine hK.out _ _ trivial (λht22=>?_);clear hK K;(try simp only[Act.put,lz3,lz4,lz5]);refine rd1 7 ?st23;case st23=>
      intro K hK;go_simp;obtain⟨uq41,huq42⟩:=Ze (uq31.alloc (.cells #[.slice Aq37 x.length cq38] 24));have Nq45:Hid (Blk uq41 uq31.heap.size 24 #[.slice Aq37 x.length cq38]):=Zh (by rw[huq42];exact Blk.new _ _ _);rw[<- huq42];have hbq43:Below uq31.heap.size uq31 uq41:=by rw[huq42];exact(Ybm _ uq31).alloc (Yar _) _
      have Hq46:=Zh (Hq39.out.below hbq43);have Hq46b:Hid (∀ ad,Aq37=some ad->0<x.length->b+1<=ad.block/\tv.ownBlock≠some ad.block):=Zh (λad e h0=>by
       have h1:=Hq39b.out ad e h0;have h2:=HR.out.blk.lt;have h3:=HSZu0.out;exact⟨by omega,λe2=>by have:=HTV.out _ e2;omega⟩)
      have Rq44:=Zh (Rq33.out.then hbq43);clear huq42 hbq43;refine hK.out _ _ trivial (λht24=>?_);clear hK K;(try simp only[Act.put,lz3,lz4,lz5]);refine rd1 8 ?st25;case st25=>
       intro K hK;obtain⟨svsq53,hoq54,hsq55⟩:=Rq44.out.rows;rw[HTL.out]at hoq54;refine Zbq _ rfl (.tmp 29) (.tmp 32) 27 rfl (b+1) 24 i0 (.slice none 0 0) 1 24 Tryz.underlying27 hi hz0 hz1 hz2 rfl (by omega) tv j svsq53 rfl hoq54 (some ⟨uq31.heap.size,0,none⟩) 1 1 [.slice Aq37 x.length cq38] rfl ⟨rfl,λad e j u hu=>by cases e;rw[Zaz,Nq45.out.cell];simpa using hu,λe=>by cases e⟩ (by simp[Value.oneCell']) (by unfold maxLen;omega) (by omega) Rq44.out.blk.lt ?_;intro v' uq47 hwq48 hgq49 hlq50;have Gq56:=Zh (RowsG.push (w:=uq41) (v:=tv) (L:=V.tok.take j) (x:=x) hsq55 (by have:=hoq54.1;rw[HTL.out];simpa using this) Hq46.out (λA c ad e1 e2 e3=>by cases e1;exact Hq46b.out ad e2 e3) (by rw[HTL.out];exact hwq48) hgq49 (hlq50.imp id λh=>⟨_,h,Yar _⟩));obtain⟨Aq51,cq52,rfl⟩:=Zac hwq48;have Gq56n:Hid (b≠(Value.slice Aq51 (j+1) cq52).ownBlock.getD (b+1)):=Zh (by
        cases hq:(Value.slice Aq51 (j+1) cq52).ownBlock with
        | none=>simp
        | some g=>have:=(hwq48.lt g hq).1;simp;omega)
       have Gq56g:=Zh hgq49;clear hwq48 hlq50 hoq54 hsq55;refine hK.out _ _ trivial (λht26=>?_);clear hK K;(try simp only[Act.put,lz3,lz4,lz5]);refine tk 9 ?_;(try simp only[Act.put,lz3,lz4,lz5]);refine tk 10 ?_;(try simp only[Act.put,lz3,lz4,lz5]);refine rd1 11 ?st29;case st29=>
        intro K hK;have Bq60:=Rq44.out.blk.grown Gq56g.out (λe=>HTB.out e.symm);have yq57:uq47.cell? ⟨b,0,none⟩=some tv:=by rw[Bq60.cell];exact Rq44.out.c0
        have zq58:=Bq60.frozen 0;go_simp;clear yq57 zq58 Bq60;have Fq59:=Zh (Rq44.out.setTok (x:=x) Gq56g.out HTK.out (v':=(.slice Aq51 (j+1) cq52)) Gq56.out);refine hK.out _ _ trivial (λht30=>?_);clear hK K;(try simp only[Act.put,lz3,lz4,lz5]);refine Yb9 (by kernel_rfl) ?_ _;obtain⟨W5,hW5⟩:=Ze ((uq47.setCell ⟨b,0,none⟩ (.slice Aq51 (j+1) cq52)));have H5:=Fq59.out;rw[<- hW5]at H5 ⊢;have HR5:=Zh H5;clear hW5 H5 hHeld;by_cases h1:x.length=1
        ·obtain⟨hj256,hxx⟩:=Zgi HO.out HX.out h1
         have hcB:=HR5.out.cB j hj256;have d1:W5.cell? ⟨b,2+j,none⟩=some (.int .i64 ((if j<j then j else 0:Nat):Int)):=by rw[HR5.out.blk.cell];exact hcB
         have z1:=HR5.out.blk.frozen (2+j);obtain⟨adb,y,e1,hy,yc⟩:=(HBT0.out.below HR5.out.below).at 0 (by omega);subst e1;have yc0:W5.cell? adb=some (.int .u8 (y.toNat:Int)):=by simpa[Addr.add]using yc
         have hyj:y.toNat=j:=by
          rw[hxx]at hy;simp at hy;rw[<- hy];exact Yaa (by show _<256;omega)
         rw[hyj]at yc yc0;have hl1:((x.length:Int)==1)=true:=by rw[h1];rfl
         have hlN:0<x.length:=by omega
         have hl0:(0:Int)<(x.length:Int):=by omega
         have hj1:(j:Int)<256:=by omega
         have HJ:=Zh hj256;clear hcB hxx hy hyj hj256 h1;go_wp2_with fail;go_still_tail 8,(by kernel_rfl);change wpList _ _ _ _ _ W5.drew;go_wp2_with fail;obtain⟨W6,hW6⟩:=Ze ((W5.setCell ⟨b,2+j,none⟩ (.int .i64 (j:Nat))).drew);have hb6:Below W5.heap.size W5 W5:=Ybm _ _;have HR6:=Zh ((HR5.out.setSingle HJ.out).then (w':=W6) (by rw[hW6];exact(Ybm _ _).drew));rw[<- hW6];clear hW6 hb6 d1 z1 yc yc0;go_roundw;case rel=>exact⟨j+1,_,_,by omega,by go_num,HR6.out⟩
         case measure=>simp[intOf];omega
        ·have hj256:256<=j:=by
          rcases Yab j 256 with h|h
          ·have h2:=HO.out.single j h
           rw[HX.out]at h2;cases h2
           exact absurd rfl h1
          ·exact h
         have hl1:((x.length:Int)==1)=false:=by simp;omega
         have HR6:=Zh (HR5.out.skip hj256);clear h1;go_wp2_with fail;go_roundw;case rel=>exact⟨j+1,_,_,by omega,by go_num,HR6.out⟩
         case measure=>simp[intOf];omega
    case st21=>
     intro K hK;go_simp;obtain⟨uq61,huq62⟩:=Ze (uq31.alloc (.cells #[.slice Aq37 x.length cq38] 24));have Nq65:Hid (Blk uq61 uq31.heap.size 24 #[.slice Aq37 x.length cq38]):=Zh (by rw[huq62];exact Blk.new _ _ _);rw[<- huq62];have hbq63:Below uq31.heap.size uq31 uq61:=by rw[huq62];exact(Ybm _ uq31).alloc (Yar _) _
     have Hq66:=Zh (Hq39.out.below hbq63);have Hq66b:Hid (∀ ad,Aq37=some ad->0<x.length->b+1<=ad.block/\tv.ownBlock≠some ad.block):=Zh (λad e h0=>by
      have h1:=Hq39b.out ad e h0;have h2:=HR.out.blk.lt;have h3:=HSZu0.out;exact⟨by omega,λe2=>by have:=HTV.out _ e2;omega⟩)
     have Rq64:=Zh (Rq33.out.then hbq63);clear huq62 hbq63;refine hK.out _ _ trivial (λht31=>?_);clear hK K;(try simp only[Act.put,lz3,lz4,lz5]);refine rd1 4 ?st32;case st32=>
      intro K hK;have yq67:uq61.cell? ⟨b,0,none⟩=some tv:=by rw[Rq64.out.blk.cell];exact Rq64.out.c0
      go_simp;clear yq67;refine hK.out _ _ trivial (λht33=>?_);clear hK K;(try simp only[Act.put,lz3,lz4,lz5]);refine rd1 8 ?st34;case st34=>
       intro K hK;obtain⟨svsq74,hoq75,hsq76⟩:=Rq64.out.rows;rw[HTL.out]at hoq75;refine Zbq _ rfl (.tmp 29) (.tmp 32) 27 rfl (b+1) 24 i0 (.slice none 0 0) 1 24 Tryz.underlying27 hi hz0 hz1 hz2 rfl (by omega) tv j svsq74 rfl hoq75 (some ⟨uq31.heap.size,0,none⟩) 1 1 [.slice Aq37 x.length cq38] rfl ⟨rfl,λad e j u hu=>by cases e;rw[Zaz,Nq65.out.cell];simpa using hu,λe=>by cases e⟩ (by simp[Value.oneCell']) (by unfold maxLen;omega) (by omega) Rq64.out.blk.lt ?_;intro v' uq68 hwq69 hgq70 hlq71;have Gq77:=Zh (RowsG.push (w:=uq61) (v:=tv) (L:=V.tok.take j) (x:=x) hsq76 (by have:=hoq75.1;rw[HTL.out];simpa using this) Hq66.out (λA c ad e1 e2 e3=>by cases e1;exact Hq66b.out ad e2 e3) (by rw[HTL.out];exact hwq69) hgq70 (hlq71.imp id λh=>⟨_,h,Yar _⟩));obtain⟨Aq72,cq73,rfl⟩:=Zac hwq69;have Gq77n:Hid (b≠(Value.slice Aq72 (j+1) cq73).ownBlock.getD (b+1)):=Zh (by
        cases hq:(Value.slice Aq72 (j+1) cq73).ownBlock with
        | none=>simp
        | some g=>have:=(hwq69.lt g hq).1;simp;omega)
       have Gq77g:=Zh hgq70;clear hwq69 hlq71 hoq75 hsq76;refine hK.out _ _ trivial (λht35=>?_);clear hK K;(try simp only[Act.put,lz3,lz4,lz5]);refine tk 9 ?_;(try simp only[Act.put,lz3,lz4,lz5]);refine tk 10 ?_;(try simp only[Act.put,lz3,lz4,lz5]);refine rd1 11 ?st38;case st38=>
        intro K hK;have Bq81:=Rq64.out.blk.grown Gq77g.out (λe=>HTB.out e.symm);have yq78:uq68.cell? ⟨b,0,none⟩=some tv:=by rw[Bq81.cell];exact Rq64.out.c0
        have zq79:=Bq81.frozen 0;go_simp;clear yq78 zq79 Bq81;have Fq80:=Zh (Rq64.out.setTok (x:=x) Gq77g.out HTK.out (v':=(.slice Aq72 (j+1) cq73)) Gq77.out);refine hK.out _ _ trivial (λht39=>?_);clear hK K;(try simp only[Act.put,lz3,lz4,lz5]);refine Yb9 (by kernel_rfl) ?_ _;obtain⟨W5,hW5⟩:=Ze ((uq68.setCell ⟨b,0,none⟩ (.slice Aq72 (j+1) cq73)));have H5:=Fq80.out;rw[<- hW5]at H5 ⊢;have HR5:=Zh H5;clear hW5 H5 hHeld;by_cases h1:x.length=1
        ·obtain⟨hj256,hxx⟩:=Zgi HO.out HX.out h1
         have hcB:=HR5.out.cB j hj256;have d1:W5.cell? ⟨b,2+j,none⟩=some (.int .i64 ((if j<j then j else 0:Nat):Int)):=by rw[HR5.out.blk.cell];exact hcB
         have z1:=HR5.out.blk.frozen (2+j);obtain⟨adb,y,e1,hy,yc⟩:=(HBT0.out.below HR5.out.below).at 0 (by omega);subst e1;have yc0:W5.cell? adb=some (.int .u8 (y.toNat:Int)):=by simpa[Addr.add]using yc
         have hyj:y.toNat=j:=by
          rw[hxx]at hy;simp at hy;rw[<- hy];exact Yaa (by show _<256;omega)
         rw[hyj]at yc yc0;have hl1:((x.length:Int)==1)=true:=by rw[h1];rfl
         have hlN:0<x.length:=by omega
         have hl0:(0:Int)<(x.length:Int):=by omega
         have hj1:(j:Int)<256:=by omega
         have HJ:=Zh hj256;clear hcB hxx hy hyj hj256 h1;go_wp2_with fail;go_still_tail 8,(by kernel_rfl);change wpList _ _ _ _ _ W5.drew;go_wp2_with fail;obtain⟨W6,hW6⟩:=Ze ((W5.setCell ⟨b,2+j,none⟩ (.int .i64 (j:Nat))).drew);have hb6:Below W5.heap.size W5 W5:=Ybm _ _;have HR6:=Zh ((HR5.out.setSingle HJ.out).then (w':=W6) (by rw[hW6];exact(Ybm _ _).drew));rw[<- hW6];clear hW6 hb6 d1 z1 yc yc0;go_roundw;case rel=>exact⟨j+1,_,_,by omega,by go_num,HR6.out⟩
         case measure=>simp[intOf];omega
        ·have hj256:256<=j:=by
          rcases Yab j 256 with h|h
          ·have h2:=HO.out.single j h
           rw[HX.out]at h2;cases h2
           exact absurd rfl h1
          ·exact h
         have hl1:((x.length:Int)==1)=false:=by simp;omega
         have HR6:=Zh (HR5.out.skip hj256);clear h1;go_wp2_with fail;go_roundw;case rel=>exact⟨j+1,_,_,by omega,by go_num,HR6.out⟩
         case measure=>simp[intOf];omega
  ·have hjn:j=n:=by omega
   subst hjn;have hb1:=(Zam (HBOX.out.below hR.below HBOX.out.lt)).2;have HR:=Zh hR;clear hR;go_wp2_with fail;clear hb1;go_loopw [51] (λi wq=>∃ (k:Nat) (D:DataW Unit),k<=m/\i=.int .i64 (k:Nat)/\CB w2 wq V b w3.heap.size j j k tv (.slice A3 m c3) D cs) (λi _=>m-(intOf i).toNat);case atStart=>exact⟨0,_,Ybd _,rfl,HR.out⟩
   case round=>
    obtain⟨k,D,hk,rfl,hQ⟩:=hrel;rcases Yab k m with hlt|hge2
    ·have hmx:V.mer[k]?=some (V.mer[k]'(by rw[HML.out];exact hlt)):=Yax _
     obtain⟨x,hxe⟩:=Ze (V.mer[k]'(by rw[HML.out];exact hlt));rw[<- hxe]at hmx;obtain⟨adm,e1,ma,mb,mt⟩:=(HV2.out.mer.below hQ.below).at_ k x hmx;subst e1;have fx:=HV2.out.mer.bound x (Ybz hmx);have hok:=(Zcu hmx).1 (HO.out.mer k (by rw[HML.out];exact hlt));have hno:=hok.2.1;have htk:V.mer.take (k+1)=V.mer.take k++[x]:=by rw[Ya5,hmx];rfl
     have htkl:(V.mer.take k).length=k:=by rw[Ycc,HML.out];omega
     have HTKL:=Zh htkl;have hiR:=hQ.isR.put hno fx.1 fx.2.1;rw[htkl,<- htk]at hiR;have HIR:=Zh hiR;have HFX:=Zh fx;have HQ:=Zh hQ;have hkn:(k:Int)<(m:Int):=by omega
     have hkz:(0:Int)<=(k:Int):=by omega
     clear hmx hxe hok hno htk htkl hiR hQ fx;go_wp2_with fail;obtain⟨X,hX⟩:=Ze (wr.alloc (.cells #[.int .i64 x.a,.int .i64 x.b,.int .i64 x.t] 88));rw[<- hX];have HX:=Zh (HQ.out.then (w':=X) (by rw[hX];exact(Ybm _ wr).alloc (Yar _) _));have hN:Blk X wr.heap.size 88 #[.int .i64 x.a,.int .i64 x.b,.int .i64 x.t]:=by rw[hX];exact Blk.new _ _ _
     clear hX ma mb mt;have n0:=hN.cell 0;have n1:=hN.cell 1;simp only[lz0,lz1,lz2]at n0 n1;have d3:X.cell? ⟨b,258,none⟩=some (.map (some w3.heap.size)):=by rw[HX.out.blk.cell];exact HX.out.cM
     clear hN;go_still_tail 10,(by kernel_rfl);change wpList _ _ _ _ _ X.drew;clear n0 n1 d3;refine wpList_mapUpdate_own _ rfl _ _ _ 89 rfl 73 3 Ziy Tryz.underlying89 (plainElem Tryz.prog 3) w3.heap.size k D rfl HX.out.map.drew (by unfold maxLen;omega) _ _ (pk x.a x.b) rfl rfl (Zcn HFX.out.1 HFX.out.2.1) (.lit (.int .i64 (k:Int))) [] (plainElem_int Tryz.underlying3 (WalkArith.wf_i64 (by omega))) ?_;intro w4 hown4 hgrow4;have HY:=Zh ((HX.out.then (Ybm _ X).drew).setMap hown4 hgrow4 HIR.out);clear hown4 hgrow4;go_wp2_with fail;go_roundw;case rel=>exact⟨k+1,_,by omega,by go_num,HY.out⟩
     case measure=>simp[intOf];omega
    ·have hkm:k=m:=by omega
     subst hkm;have HQ:=Zh hQ;clear hQ;go_wp2_with fail;go_ret;refine⟨b,rfl,Zaa HB2.out HQ.out.below HB2.out.size,?_⟩;have hC:=HQ.out;have HO_long:256<=j:=by have:=HO.out.long;rw[HTL0.out]at this;exact this
     have e1:=HTL0.out;have e2:=HML.out;subst e1;subst e2;exact hC.coder HO.out HO_long (λx hx=>HV.out.mer.bound x hx)
end
section
open Go.RowKit Go.Maps Go.WideMaps Go.Shelf
theorem Qc1 (w:World) (A B:Option Addr) (n m ca cb:Nat) (V:Voc) (hV:VocSee w A B n m ca cb V) (hO:VOk V):
  Calls Tryz.prog 13 #[.agg #[.slice A n ca,.slice B m cb]] w λe w'=>∃ b,e=.returned (.pointer (some ⟨b,0,none⟩))/\Below w.heap.size w w'/\Coder w' b V:=
 Qdm w A B n m ca cb V hV hO
theorem Qeq (w:World) (A:Option Addr) (n c:Nat) (l:List (Int×Int)) (hl:PairsIn w A n l) (hn:n<=1048576) (hc:n<=c) {V:Voc} (hv:ofV l=V):
  Calls Tryz.prog 11 #[.slice A n c] w λe w'=>∃ A B n m ca cb,e=.returned (.agg #[.slice A n ca,.slice B m cb])/\VocSee w' A B n m ca cb V/\Below w.heap.size w w':=by
 have:=Qbm w A n c l hl hn hc
 rw[hv]at this;exact this
theorem Zyi (w:World) (a b:Int) (ha:Zaj a) (hb:Zaj b):PairsIn (w.alloc (.cells #[.int .i64 a,.int .i64 b] 73)) (some ⟨w.heap.size,0,none⟩) 1 [(a,b)] where
 len:=rfl
 fit:=by unfold maxLen;omega
 vals:=λp hp=>by
  simp only[Yat,List.not_mem_nil,or_false]at hp;subst hp;exact⟨ha,hb⟩
 nil:=λe=>by cases e
 cells:=λad e i p hp=>by
  cases e
  have hn:=Blk.new w 73 #[.int .i64 a,.int .i64 b];rw[Zaz,Zaz,hn.cell,hn.cell]
  match i with
  | 0=>simp at hp;subst hp;exact⟨rfl,rfl⟩
  | i+1=>simp at hp
end
section
open Go.RowKit Go.Maps Go.WideMaps
theorem Zsx (w:World) (k t:Nm) (hk:k.length<=maxLen) (ht:t.length<=maxLen):DocsIn (w.alloc (.cells #[.string ⟨k.toArray⟩,.string ⟨t.toArray⟩] 49)) (some ⟨w.heap.size,0,none⟩) 1 [(k,t)] where
 len:=rfl
 fit:=by unfold maxLen;omega
 vals:=λp hp=>by
  rw[Ybi.1 hp];exact⟨hk,ht⟩
 nil:=λe=>by cases e
 cells:=λad e i p hp=>by
  cases e
  have hn:=Blk.new w 49 #[.string ⟨k.toArray⟩,.string ⟨t.toArray⟩];rw[Zaz,Zaz,hn.cell,hn.cell]
  match i with
  | 0=>simp at hp;subst hp;exact⟨rfl,rfl⟩
  | i+1=>simp at hp
abbrev sh1:List (Int×Int):=[(97,98)]
abbrev shD:List (Nm×Nm):=[([107],[97,97,98])]
theorem shR:Zb1 shD:=by decide
theorem shR2:¬ Zb1 [(([]:Nm),([]:Nm))]:=by decide
theorem shT:Zas (Zcd (ofV sh1) shD)=[97,256]:=by decide +kernel
theorem shC1:Zey (segT (Zcd (ofV sh1) shD)) 256=some [(0,[(1,1)])]:=by decide +kernel
theorem shC2:Zey (segT (Zcd (ofV sh1) shD)) 98=none:=by decide +kernel
theorem Qbl (L:List MDoc):(segT L).map Prod.fst=Zas L:=by
 unfold segT;rw[List.map_map];exact List.map_id'' (λ_=>rfl) _
theorem shTN:Zfr shD<=4000:=by decide
theorem Qfj:Zfr [(([]:Nm),([]:Nm))]<=4000:=by decide
theorem SegOut.yes {w w':World} {V:Voc} {l:List (Nm×Nm)} {e:Ending} (h:SegOut w V l e w') (hl:Zb1 l) (hn:(segB V l).length<=1099511627776) {k:Nat} (hk:(segB V l).length=k):Qcs w (segB V l) k 0 e w':=by
 unfold SegOut at h;rw[Yag hl]at h;exact TxtOut.is h hk (by omega)
theorem SegOut.no {w w':World} {V:Voc} {l:List (Nm×Nm)} {e:Ending} (h:SegOut w V l e w') (hl:¬ Zb1 l):e=.returned (.tuple #[.slice none 0 0,.int .i64 1])/\Below w.heap.size w w':=by
 unfold SegOut at h;rw[Yaf hl]at h;exact h
theorem Ztb {α:Type} (f:α->Nm) (g:α->Nat):∀ l:List α,(∀ x∈l,(f x).length<=g x)->(l.flatMap f).length<=(l.map g).sum
 | [],_=>by simp
 | a :: r,h=>by
  rw[Yan,Yaq,Ya2,List.sum_cons];have h1:=Ztb f g r λx hx=>h x (Yap _ hx);have h2:=h a (Yam ..);omega
theorem Zzj (c d:Nat) (g:Int->Nat):∀ l:List Int,(l.map λt=>c+d*g t).sum=c*l.length+d*(l.map g).sum
 | []=>by simp
 | a :: r=>by
  rw[Ya2,List.sum_cons,Zzj c d g r,Yah,Ya2,List.sum_cons,Nat.mul_add,Nat.mul_add];omega
theorem Zme:∀ l:List Pst,(∀ x∈l,0<x.2.length)->l.length<=Zcl l
 | [],_=>by simp
 | a :: r,h=>by
  have h1:=Zme r λx hx=>h x (Yap _ hx);have h2:=h a (Yam ..);unfold Zcl at h1 ⊢;rw[Ya2,List.sum_cons,Yah];omega
theorem Zxu {V:Voc} (hV:VOk V) {l:List (Nm×Nm)} (hl:Zb1 l) (ht:Zfr l<=4000):(segB V l).length<=1000000:=by
 have hW:=Zyb hV hl;have hT:=Zhy hV hl;have hm:=Zeh (Zcd V l);have h64:=hl.1;unfold segB;rw[Ziq hV hl,Yaq,Yaq];have h1:(Zpw l.length (Zas (Zcd V l)).length).length<=34:=by
  unfold Zpw;have q1:=Zao l.length (by omega);have q2:=Zao (Zas (Zcd V l)).length (by omega);have q3:=Zhf (b:=putL l.length++putL (Zas (Zcd V l)).length) (by rw[Yaq];omega);rw[Yaq]at q3;omega
 have h2:=Zi4 docF 4200 l λx hx=>Znf (hl.2.1 x hx);have h3:=Ztb (Zfg (Zcd V l)) (λt=>34+90*Zcl (Zax (Zcd V l) t)) (Zas (Zcd V l)) (λt htm=>by
  obtain⟨t0,t1⟩:=hW.tok t htm;have q1:=Zao t.toNat (by omega);have hv:=Zdq hW.wf t;have q2:=Zoj hv;have q4:=Zme _ hv.some;have q5:=Zkd (Zcd V l) t;have q6:(Zd5 (Zcd V l) t).length<=20+90*Zcl (Zax (Zcd V l) t):=by
   unfold Zd5;rw[Yaq,(Zqo hW.wf t).1];omega
  have q7:=Zhf (b:=Zd5 (Zcd V l) t) (by omega);unfold Zfg;omega)
 rw[Zzj,Zqk]at h3;omega
theorem Zvg {S:SegSt} {K:World->(Nat->Prop)->Nat->CSt->Prop} (hS:SegOk S K) (hK:CurW K) (w:World):Calls Tryz.prog 9 #[] w λe w'=>e=.returned (.bool true)/\Below w.heap.size w w':=by
 have HSO:=Zh hS;have HCO:=Zh hK;have HIN:=Zh (Zyi w 97 98 ⟨by decide,by decide⟩ ⟨by decide,by decide⟩);obtain⟨V,hV⟩:=Ze (ofV sh1);have hO:=Qcj sh1;have hc1:=shC1;have hc2:=shC2;have hst:=shT;rw[<- hV]at hO hc1 hc2 hst;have HO:=Zh hO;have HC1:=Zh hc1;have HC2:=Zh hc2;have HST:=Zh hst;have HV:=Zh hV;have HOB:=Zh (Zva hO shR (Ybu shTN (by omega)));have HWF:=Zh (Zni HOB.out);have HLE:=Zh (Zxu hO shR shTN);clear hV hO hc1 hc2 hst hS hK;go_enter Tryz.func9,Tryz.ntmps9;go_wp2_with fail;refine(Qeq _ _ 1 1 sh1 HIN.out (by omega) (by omega) HV.out.symm).mono ?_;rintro e w1 ⟨A,B,n,m,ca,cb,rfl,hsee,hb⟩;have HB1:=Zh (Zaa ((Ybm _ w).alloc (Yar _) _) hb (by simp));have HSEE:=Zh hsee;clear hb hsee HIN;go_wp2_with fail;refine(Qc1 w1 A B n m ca cb V HSEE.out HO.out).mono ?_;rintro e w2 ⟨b,rfl,hb,hC⟩;have HB2:=Zh (Zaa HB1.out hb HB1.out.size);have HC:=Zh hC;have hd:=Zsx w2 [107] [97,97,98] (by unfold maxLen;decide) (by unfold maxLen;decide);obtain⟨W3,hW3⟩:=Ze (w2.alloc (.cells #[.string ⟨([107]:Nm).toArray⟩,.string ⟨([97,97,98]:Nm).toArray⟩] 49));rw[<- hW3]at hd;have hb3:Below w2.heap.size w2 W3:=by rw[hW3];exact(Ybm _ _).alloc (Yar _) _
 have HB3:=Zh (Zaa HB2.out hb3 HB2.out.size);have HC3:=Zh (HC.out.below hb3);have HBU:=Zh (HSO.out.build HC3.out HO.out _ 1 1 shD hd (by omega) shTN);have HW3:=Zh hW3;clear hb hC hd hW3 hb3;go_wp2_with fail;rw[show w2.alloc (.cells #[.string ⟨#[107]⟩,.string ⟨#[97,97,98]⟩] 49)=W3 from HW3.out.symm];refine HBU.out.mono ?_;intro e w4 hso;obtain⟨k,hk⟩:∃ k,(segB V shD).length=k:=⟨_,rfl⟩
 obtain⟨A4,c4,rfl,hby,hc4,hb4⟩:=hso.yes shR (by have:=HLE.out;omega) hk;have hk6:k<=1000000:=by rw[<- hk];exact HLE.out
 have HB4:=Zh (Zaa HB3.out hb4 HB3.out.size);have HC4:=Zh (HC3.out.below hb4);have hop:=HSO.out.open_ w4 A4 k c4 (segB V shD) hby hc4 hk6;rw[HOB.out]at hop;have HOP:=Zh hop;clear hso hby hb4 hop HBU hk;go_wp2_with fail;refine HOP.out.mono ?_;rintro e w5 ⟨hb5,g,F,rfl,hs5,hF5⟩;have HB5:=Zh (Zaa HB4.out hb5 HB4.out.size);have HC5:=Zh (HC4.out.below hb5);have HS5:=Zh hs5;have hd:=Zsx w5 [] [] (by unfold maxLen;decide) (by unfold maxLen;decide);obtain⟨W6,hW6⟩:=Ze (w5.alloc (.cells #[.string ⟨([]:Nm).toArray⟩,.string ⟨([]:Nm).toArray⟩] 49));rw[<- hW6]at hd;have hb6:Below w5.heap.size w5 W6:=by rw[hW6];exact(Ybm _ _).alloc (Yar _) _
 have HB6:=Zh (Zaa HB5.out hb6 HB5.out.size);have HS6:=Zh (HSO.out.below hs5 hb6);have HBU:=Zh (HSO.out.build (HC5.out.below hb6) HO.out _ 1 1 _ hd (by omega) Qfj);have HW6:=Zh hW6;clear hb5 hs5 hF5 hd hW6 hb6 HOP;go_wp2_with fail;rw[show w5.alloc (.cells #[.string ⟨#[]⟩,.string ⟨#[]⟩] 49)=W6 from HW6.out.symm];refine HBU.out.mono ?_;intro e w7 hso;obtain⟨rfl,hb7⟩:=hso.no shR2;have HB7:=Zh (Zaa HB6.out hb7 HB6.out.size);have HS7:=Zh (HSO.out.below HS6.out hb7);have HDC:=Zh (HSO.out.doc HS7.out HWF.out 0 (by unfold Zaj;omega));have hce:=λw p=>(Qb5 w p).1;have hse:=λw p=>(Qco w p).1;clear hso hb7 HBU;go_wp2_with fail;refine HDC.out.mono ?_;rintro e w8 ⟨rfl,hb8⟩;have HB8:=Zh (Zaa HB7.out hb8 HB7.out.size);have HS8:=Zh (HSO.out.below HS7.out hb8);have hda:Zim shD 0=(([107]:Nm),([97,97,98]:Nm)):=rfl;have hdb:decide ((0:Int)<=0/\(0:Int)<((shD.length:Nat):Int))=true:=by decide
 rw[hda,hdb];obtain⟨W9,hW9⟩:=Ze (w8.alloc (.cells #[.string ⟨([107]:Nm).toArray⟩,.string ⟨([97,97,98]:Nm).toArray⟩] 49));have hb9:Below w8.heap.size w8 W9:=by rw[hW9];exact(Ybm _ _).alloc (Yar _) _
 have HB9:=Zh (Zaa HB8.out hb9 HB8.out.size);have HS9:=Zh (HSO.out.below HS8.out hb9);have hbl:Blk W9 w8.heap.size 49 #[.string ⟨([107]:Nm).toArray⟩,.string ⟨([97,97,98]:Nm).toArray⟩]:=by rw[hW9];exact Blk.new _ _ _
 have HBL:=Zh hbl;have htm:=HSO.out.terms HS9.out HWF.out;rw[Qbl,HST.out]at htm;have HTM:=Zh htm;have HW0:Hid (CWF (Zf7 [(0,[(1,1)])])):=Zh (CWF.start (by decide) (by decide));clear htm;have HW9:=Zh hW9;obtain⟨xb,hxb⟩:=Ze w8.heap.size;have HXB:=Zh hxb;clear hb8 hda hdb hW9 hb9 hbl hxb HDC;simp only;go_wp2_with fail;rw[show w8.alloc (.cells #[.string ⟨#[107]⟩,.string ⟨#[97,97,98]⟩] 49)=W9 from HW9.out.symm,<- HXB.out];refine HTM.out.mono ?_;rintro e w10 ⟨At,ct,rfl,hti,hct,hb10⟩;have HB10:=Zh (Zaa HB9.out hb10 HB9.out.size);have HS10:=Zh (HSO.out.below HS9.out hb10);have HBL10:=Zh (HBL.out.below hb10 HBL.out.lt);have HTI:=Zh (show IntsIn w10 At 2 [97,256]from hti);have hcu:=HSO.out.cursor HS10.out HWF.out 256 (by unfold Zaj;omega);rw[HC1.out]at hcu;have HCU:=Zh hcu;have hl2:([97,256]:List Int).length=2:=rfl;rw[hl2];clear hti hct hb10 hcu hl2 HTM;go_wp2_with fail;refine HCU.out.mono ?_;rintro e w11 ⟨hb11,cb,Fc,rfl,hk11,hFc⟩;have HB11:=Zh (Zaa HB10.out hb11 HB10.out.size);have HS11:=Zh (HSO.out.below HS10.out hb11);have hbl:=HBL10.out.below hb11 HBL10.out.lt;rw[<- HXB.out]at hbl;have t1:=hbl.cell 1;simp only[lz0,lz1,lz2]at t1;obtain⟨pt,y,rfl,hy,t2,-,-⟩:=(HTI.out.below hb11).at 1 (by omega);simp only[lz1,lz2,Option.some.injEq]at hy;subst hy;have t2':=Qez t2;have hq1:((⟨#[97,97,98]⟩:ByteArray).toList==(⟨#[97,97,98]⟩:ByteArray).toList)=true:=by simp
 have hnp:=λw p=>(Zr6 w p).2;have hep:=λw p=>(Zr6 w p).1;have hsp:=HCO.out.spots hk11 HW0.out;have HSP:=Zh (show Calls Tryz.prog 27 #[.pointer (some ⟨cb,0,none⟩)] w11 (Znc w11 [(1,1)])from hsp);clear hk11 hFc hb11 hbl hsp HCU;go_wp2_with fail;refine HSP.out.mono ?_;rintro e w12 ⟨As,cs,rfl,-,-,-,hb12⟩;have HB12:=Zh (Zaa HB11.out hb12 HB11.out.size);have HS12:=Zh (HSO.out.below HS11.out hb12);have hcu:=HSO.out.cursor HS12.out HWF.out 98 (by unfold Zaj;omega);rw[HC2.out]at hcu;have HCU:=Zh hcu;have hl1:([(1,1)]:List (Int×Int)).length=1:=rfl;rw[hl1];clear hb12 hcu hl1 HSP t1 t2 t2';go_wp2_with fail;refine HCU.out.mono ?_;rintro e w13 ⟨hb13,rfl⟩;have HB13:=Zh (Zaa HB12.out hb13 HB12.out.size);have HMN:=Zh (HSO.out.many (HSO.out.below HS12.out hb13) HWF.out);clear hb13 HCU;go_wp2_with fail;refine HMN.out.mono ?_;rintro e w14 ⟨rfl,hb14⟩;have HB14:=Zh (Zaa HB13.out hb14 HB13.out.size);have hl1:((shD.length:Nat):Int)=1:=rfl;rw[hl1];clear hb14 hl1 HMN;go_wp2;go_ret;exact⟨rfl,HB14.out⟩
end
end Go.Proofs.YthcjikpabpgpfaaGreat
