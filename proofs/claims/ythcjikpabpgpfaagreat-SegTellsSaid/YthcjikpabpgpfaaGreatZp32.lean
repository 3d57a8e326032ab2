import Derived.Test.YthcjikpabpgpfaaGreatZp31
import Derived.Deep.RegionHeld3
import Derived.Deep.DeepCutAuto
import Derived.Deep.QuietTactic
import Derived.BigQuiet
set_option linter.unusedSimpArgs false
set_option maxHeartbeats 16000000
set_option maxRecDepth 100000
namespace Go.Proofs.YthcjikpabpgpfaaGreat
open Go.RowKit Go.Maps Go.WideMaps
theorem Zxe (w:World):BytesIn w none 0 []:=⟨by unfold maxLen;omega,⟨rfl,(λad e=>by cases e),λ_=>rfl⟩,λad e=>by cases e⟩
def OwnB (w:World) (g n:Nat):Prop:=∃ cur:Array Value,Blk w g 5 cur/\∀ k,k<n->∃ z:UInt8,cur[k]?=some (byteV z)
theorem OwnB.store {w:World} {g n:Nat} (h:OwnB w g n) (k:Nat) (z:UInt8):OwnB (w.setCell ⟨g,k,none⟩ (byteV z)) g n:=by
 obtain⟨cur,h1,h2⟩:=h;refine⟨cur.setIfInBounds k (byteV z),h1.set_ k _,λj hj=>?_⟩;obtain⟨y,hy⟩:=h2 j hj;by_cases hjk:k=j
 ·subst hjk
  exact⟨z,by rw[Array.getElem?_setIfInBounds_self_of_lt (Array.getElem?_eq_some_iff.1 hy).1]⟩
 ·exact⟨y,by rw[Array.getElem?_setIfInBounds_ne hjk];exact hy⟩
theorem OwnB.of {w:World} {base g n cap:Nat} {x:Nm} (h:w.ownsRow base 5 1 (.slice (some ⟨g,0,none⟩) n cap) n (x.map byteV)) (hn:x.length=n):OwnB w g n:=by
 rcases h.2 with⟨h1,_⟩|⟨g',cap',cur,h1,_,h2,h3,h4,h5,h6⟩
 ·cases h1
 ·simp only[Value.slice.injEq,Option.some.injEq,Addr.mk.injEq,and_true,true_and]at h1
  obtain⟨rfl,rfl⟩:=h1;refine⟨cur,h2,λk hk=>?_⟩;have hx:x[k]?=some (x[k]'(by omega)):=Yax _;refine⟨x[k]'(by omega),?_⟩;have h7:(cur.toList.take (n*1))[k]?=some (byteV (x[k]'(by omega))):=by rw[h6,Ych,hx];rfl
  rw[Yci]at h7;split at h7
  ·simpa using h7
  ·cases h7
theorem Zqg {S:SegSt} {K:World->(Nat->Prop)->Nat->CSt->Prop} (hS:SegOk S K) (hK:CurW K) (W:World) (P:Option Addr) (p cp:Nat) (ps:List (Int×Int)) (hp:PairsIn W P p ps) (hpc:p<=cp) (D:Option Addr) (n c:Nat) (l:List (Nm×Nm)) (hd:DocsIn W D n l) (hnc:n<=c) (Q:Option Addr) (nb cb0:Nat) (bs:Nm) (hbs:BytesIn W Q nb bs) (hbc:nb<=cb0):
  Calls Tryz.prog 3 #[.slice P p cp,.slice D n c,.slice Q nb cb0] W λe w'=>e=.returned (.bool true)/\Below W.heap.size W w':=by
 obtain⟨i0,hi,hz0,hz1,hz2⟩:=info_parts Za9;have HP:=Zh hp;have HD:=Zh hd;have HBS:=Zh hbs;have HBC:=Zh hbc;have HPC:=Zh hpc;have HNC:=Zh hnc;have hp63:=hp.fit;have hb63:=hbs.1;have hbl:bs.length=nb:=by have:=hbs.2.1.len;simpa using this
 have HBL:=Zh hbl;unfold maxLen at hp63 hb63;obtain⟨V1,hV1⟩:∃ V,ofV ps=V:=⟨_,rfl⟩
 have HO1:Hid (VOk V1):=Zh (hV1 ▸ Qcj ps);have HV1:=Zh hV1;have hse:=λw p=>(Qco w p).1;have hre:=Qdi;clear hp hd hbs hbc hpc hnc hV1 hbl;have HSO:=Zh hS;have HCO:=Zh hK;have HH:=Zh (Zvg hS hK W);clear hS hK;go_enter Tryz.func3,Tryz.ntmps3;go_wp2_with fail;refine HH.out.mono ?_;rintro e w1 ⟨rfl,hb1⟩;have HB1:=Zh hb1;have HG:=Zh (Zqu w1 P D p cp n c l (by omega) (HD.out.below HB1.out));clear hb1 HH;go_wp2_with fail;refine HG.out.mono ?_;rintro e w2 ⟨r,rfl,⟨q2,hw2⟩,hr⟩;have HB:Hid (Below W.heap.size W w2):=Zh (by rw[hw2];exact Zaf HB1.out q2);clear hw2 HG HB1;cases r with
 | true=>
  clear hr;go_wp2;go_ret;exact⟨rfl,HB.out⟩
 | false=>
 have HSM:=Zh (hr rfl);clear hr;have hp60:=HSM.out.1;by_cases hb20:20000<nb
 ·have d1:decide ((20000:Int)<(nb:Int))=true:=by simp;omega
  go_wp2;go_ret;exact⟨rfl,HB.out⟩
 have d1:decide ((20000:Int)<(nb:Int))=false:=by simp;omega
 go_wp2_with fail;refine(Qeq w2 P p cp _ (HP.out.below HB.out) (by omega) HPC.out HV1.out).mono ?_;rintro e x1 ⟨A1,B1,n1,m1,ca1,cb1,rfl,hsee,hb⟩;replace HB:=Zh (Zaa HB.out hb HB.out.size);obtain⟨W3,hW3⟩:=Ze (x1.alloc (.cells #[.slice A1 n1 ca1,.slice B1 m1 cb1] 30));have hb3:Below x1.heap.size x1 W3:=by rw[hW3];exact(Ybm _ _).alloc (Yar _) _
 have hbk:Blk W3 x1.heap.size 30 #[.slice A1 n1 ca1,.slice B1 m1 cb1]:=by rw[hW3];exact Blk.new _ _ _
 replace HB:=Zh (Zaa HB.out hb3 HB.out.size);have HE:=Zh (hsee.below hb3);obtain⟨vb,hvb⟩:=Ze x1.heap.size;rw[<- hvb]at hbk;have HVK:=Zh hbk;have v0:=hbk.cell 0;have v1:=hbk.cell 1;simp only[lz0,lz1,lz2]at v0 v1;have HW3:=Zh hW3;have HVB:=Zh hvb;have hnew:=Qc1 W3 A1 B1 n1 m1 ca1 cb1 V1 HE.out HO1.out;have HNW:=Zh hnew;clear hb hsee hW3 hb3 hbk hvb hnew;go_wp2_with fail;rw[show x1.alloc (.cells #[.slice A1 n1 ca1,.slice B1 m1 cb1] 30)=W3 from HW3.out.symm,<- HVB.out];refine HNW.out.mono ?_;rintro e y1 ⟨b1,rfl,hb,hC⟩;replace HB:=Zh (Zaa HB.out hb HB.out.size);replace HE:=Zh (HE.out.below hb);replace HVK:=Zh (HVK.out.below hb HVK.out.lt);have HC1:=Zh hC;have HU1:=Zh (HSO.out.build HC1.out HO1.out D n c l (HD.out.below HB.out) HNC.out (by have:=HSM.out.2.text;omega));clear hb hC HNW v0 v1;go_wp2_with fail;refine HU1.out.mono ?_;intro e z1 hso;by_cases hR:Zb1 l
 ·have HR:=Zh hR
  have HLE1:Hid ((segB V1 l).length<=1000000):=Zh (Zxu HO1.out hR (by have:=HSM.out.2.text;omega));obtain⟨k1,hk⟩:∃ k,(segB V1 l).length=k:=⟨_,rfl⟩
  obtain⟨S1,cs1,rfl,hby,-,hb⟩:=hso.yes hR (by have:=HLE1.out;omega) hk;have HK1:=Zh hk;replace HB:=Zh (Zaa HB.out hb HB.out.size);replace HE:=Zh (HE.out.below hb);replace HVK:=Zh (HVK.out.below hb HVK.out.lt);have HBY1:=Zh hby;have v0:=HVK.out.cell 0;have v1:=HVK.out.cell 1;simp only[lz0,lz1,lz2]at v0 v1;have HRB:=Zh (Zjo z1 A1 B1 D n1 m1 ca1 cb1 n c V1 l HE.out HO1.out (HD.out.below HB.out));clear hso hR hby hk hb HU1;go_wp2_with fail;refine HRB.out.mono ?_;intro e z2 hso;obtain⟨S2,cs2,rfl,hby,-,hb⟩:=hso.yes HR.out (by have:=HLE1.out;omega) HK1.out;replace HB:=Zh (Zaa HB.out hb HB.out.size);replace HBY1:=Zh (HBY1.out.below hb);have hs1':(convert 24 9 (.slice S1 k1 cs1)).run Tryz.prog z2=.ok (.string ⟨(segB V1 l).toArray⟩) z2:=Zdx HBY1.out cs1;have hs2':(convert 24 9 (.slice S2 k1 cs2)).run Tryz.prog z2=.ok (.string ⟨(segB V1 l).toArray⟩) z2:=Zdx hby cs2;obtain⟨X1,hX1⟩:∃ X1:ByteArray,X1=⟨(segB V1 l).toArray⟩:=⟨_,rfl⟩
  rw[<- hX1]at hs1' hs2';have hxx:(X1.toList==X1.toList)=true:=by simp
  clear hso hby hb hX1 HRB v0 v1;obtain⟨W4,hW4⟩:=Ze (z2.alloc (.cells #[] 5));have hb4:Below z2.heap.size z2 W4:=by rw[hW4];exact(Ybm _ _).alloc (Yar _) _
  have HB4:=Zh hb4;have HL4:=Zh (HBS.out.below (Zaa HB.out hb4 HB.out.size));have HO4:Hid (W4.ownsRow z2.heap.size 5 1 (.slice (some ⟨z2.heap.size,0,none⟩) 0 0) 0 []):=Zh (by rw[hW4];exact Ybx z2 #[] 0 (Yar _) (Ybd _) rfl);have HW4:=Zh hW4;clear hb4 hW4;go_wp2_with (at_builtin;rw[<- HW4.out];refine Zae _ rfl (.tmp 54) (.tmp 55) 24 rfl z2.heap.size 5 i0 (.int .u8 0) 1 Tryz.underlying24 hi hz0 hz1 hz2 rfl _ 0 [] rfl HO4.out Q nb cb0 (bs.map byteV) rfl HL4.out.2.1 (Zbm _) (by unfold maxLen;omega) (by omega) HB4.out.size ?_;intro v w5 hown hgrow hloc;obtain⟨Ag,cap,rfl⟩:=Zac hown;rw[Ya4]at *;rw[Yad]at hown;have HO5:=Zh hown;have HG5:=Zh hgrow;clear hown hgrow hloc;try clear hs1';try clear hs2';try clear hxx);have hcap:nb<=cap:=Zbi HO5.out;have hb5:Below z2.heap.size z2 w5:=HB4.out.grown HG5.out HB4.out.size (λk e=>by cases e;exact Yar _);have HSW:=Zh HB.out.size;replace HB:=Zh (Zaa HB.out hb5 HB.out.size);have hI5:BytesIn w5 Ag nb bs:=BytesIn.own HO5.out (by unfold maxLen;omega);have HZ2:Hid (z2.heap.size<=w5.heap.size/\W.heap.size<=z2.heap.size):=Zh (by have h1:=hb5.size;exact⟨h1,HSW.out⟩);have HAG:Hid (∀ gg,Ag=some ⟨gg,0,none⟩->z2.heap.size<=gg/\gg<w5.heap.size/\OwnB w5 gg nb):=Zh (λgg e=>by
   subst e;have h1:=HO5.out.lt gg rfl;exact⟨h1.1,h1.2,OwnB.of HO5.out HBL.out⟩)
  have HAZ:Hid (nb=0\/∃ gg,Ag=some ⟨gg,0,none⟩):=Zh (by
   rcases HO5.out.2 with⟨_,h0⟩|⟨g',cap',cur,h1,_⟩
   ·exact .inl h0
   ·simp only[Value.slice.injEq]at h1
    exact .inr ⟨g',h1.1⟩)
  have HOPN:=Zh (HSO.out.open_ w5 Ag nb cap bs hI5 hcap (by omega));clear hcap hb5 hI5;obtain⟨R,hRR⟩:=Ze (Zh4 bs);have HRR:=Zh hRR;rw[<- hRR]at HOPN;clear hRR;cases R with
  | none=>
   refine HOPN.out.mono ?_;rintro e w6 ⟨hb6,rfl⟩;have H56:=Zh hb6;replace HB:=Zh (Zaa HB.out hb6 HB.out.size);clear hb6 HOPN;go_wp2;go_loopw [16] (λiv wr=>∃ i:Nat,i<=nb/\iv=.int .i64 i/\Kept (λi=>∃ gg,Ag=some ⟨gg,0,none⟩/\i=gg) w6 wr/\∀ gg,Ag=some ⟨gg,0,none⟩->OwnB wr gg nb) (λiv _=>nb-(intOf iv).toNat);case atStart=>
    refine⟨0,Ybd _,rfl,Kept.refl _ _,λgg e=>?_⟩;obtain⟨h1,h2,cur,h3,h4⟩:=HAG.out gg e;exact⟨cur,h3.below H56.out h2,h4⟩
   case round=>
     obtain⟨i,hil,rfl,hkr,hob⟩:=hrel;have HKr:=Zh hkr;have HOB:=Zh hob;have HBr:Hid (Below W.heap.size W wr):=Zh (HB.out.trans (hkr.toBelow HB.out.size (λj ⟨gg,e1,e2⟩=>by have h1:=(HAG.out gg e1).1;have h2:=HZ2.out.2;omega)));clear hkr hob;rcases Yab i nb with hlt|hge
     ·have di:decide ((i:Int)<(nb:Int))=true:=by simpa using hlt
      have p0:(0:Int)<=(i:Int):=by omega
      have p1:(i:Int)<(nb:Int):=by omega
      have hwi:IntKind.i64.wrap ((i:Int)+1)=(i:Int)+1:=Ybo _ (by omega);obtain⟨gg,hgg⟩:∃ gg,Ag=some ⟨gg,0,none⟩:=by
       rcases HAZ.out with h|h
       ·omega
       ·exact h
      have HOG:=Zh (HOB.out gg hgg);obtain⟨cur,hbk,hcs⟩:=HOG.out;obtain⟨x,hx⟩:=hcs i hlt;have c0:wr.cell? ((⟨gg,0,none⟩:Addr).add i)=some (.int .u8 (x.toNat:Int)):=by rw[zero_add,hbk.cell,hx];rfl
      have f0:wr.frozen? ((⟨gg,0,none⟩:Addr).add i)=false:=by rw[zero_add];exact hbk.frozen i
      have hx8:=x.toNat_lt;obtain⟨z,hz⟩:∃ z:UInt8,z=x+1:=⟨_,rfl⟩
      have hw8:IntKind.u8.wrap ((x.toNat:Int)+1)=(z.toNat:Int):=by
       rw[hz];have h1:(x+1).toNat=(x.toNat+1) % 256:=UInt8.toNat_add x 1;rw[h1];simp only[IntKind.wrap,IntKind.bits,IntKind.signed];simp
      have HGG:=Zh hgg;obtain⟨pg,hpg⟩:∃ pg:Addr,pg=⟨gg,0,none⟩:=⟨_,rfl⟩
      rw[<- hpg]at c0 f0;have hgg':Ag=some pg:=by rw[hpg];exact hgg
      have HPG:=Zh hpg;clear hbk hcs hx hz hgg hpg;subst hgg';go_wp2;go_roundw;case rel=>
       have e2:pg.add i=⟨gg,i,none⟩:=by rw[HPG.out,zero_add]
       refine⟨i+1,by omega,by go_num,?_,λg2 e=>?_⟩
       ·rw[e2]
        exact HKr.out.setCell (p:=⟨gg,i,none⟩) (.inl ⟨gg,by rw[HPG.out],rfl⟩) _
       ·have:g2=gg:=by
         have h1:=Ya9 e;rw[HPG.out]at h1;cases h1
         rfl
        subst this;rw[e2];exact HOG.out.store i z
      case measure=>simp[intOf];omega
     ·have hlz:¬ ((nb:Int)<(nb:Int)):=by omega
      have di:decide ((i:Int)<(nb:Int))=false:=by simp;omega
      have hop:=Zfe wr Q nb cb0 bs (HBS.out.below HBr.out) HBC.out (by omega);rw[<- HRR.out]at hop;have HROP:=Zh hop;clear hop;go_wp2_with fail;refine HROP.out.mono ?_;rintro e w8 ⟨hb8,rfl⟩;have HB8:=Zh (Zaa HBr.out hb8 HBr.out.size);clear hb8 HROP;go_wp2;go_ret;exact⟨rfl,HB8.out⟩
  | some x=>
   obtain⟨D0,T0⟩:=x;have HWF:=Zh (Zni HRR.out.symm);refine HOPN.out.mono ?_;rintro e w6 ⟨hb6,g,F6,rfl,hs6,hF6⟩;have H56:=Zh hb6;have HS6:=Zh hs6;have HF6:=Zh hF6;replace HB:=Zh (Zaa HB.out hb6 HB.out.size);clear hb6 hs6 hF6 HOPN;go_wp2;go_loopw [16] (λiv wr=>∃ i:Nat,i<=nb/\iv=.int .i64 i/\Kept (λi=>∃ gg,Ag=some ⟨gg,0,none⟩/\i=gg) w6 wr/\∀ gg,Ag=some ⟨gg,0,none⟩->OwnB wr gg nb) (λiv _=>nb-(intOf iv).toNat);case atStart=>
    refine⟨0,Ybd _,rfl,Kept.refl _ _,λgg e=>?_⟩;obtain⟨h1,h2,cur,h3,h4⟩:=HAG.out gg e;exact⟨cur,h3.below H56.out h2,h4⟩
   case round=>
     obtain⟨i,hil,rfl,hkr,hob⟩:=hrel;have HKr:=Zh hkr;have HOB:=Zh hob;have HBr:Hid (Below W.heap.size W wr):=Zh (HB.out.trans (hkr.toBelow HB.out.size (λj ⟨gg,e1,e2⟩=>by have h1:=(HAG.out gg e1).1;have h2:=HZ2.out.2;omega)));clear hkr hob;rcases Yab i nb with hlt|hge
     ·have di:decide ((i:Int)<(nb:Int))=true:=by simpa using hlt
      have p0:(0:Int)<=(i:Int):=by omega
      have p1:(i:Int)<(nb:Int):=by omega
      have hwi:IntKind.i64.wrap ((i:Int)+1)=(i:Int)+1:=Ybo _ (by omega);obtain⟨gg,hgg⟩:∃ gg,Ag=some ⟨gg,0,none⟩:=by
       rcases HAZ.out with h|h
       ·omega
       ·exact h
      have HOG:=Zh (HOB.out gg hgg);obtain⟨cur,hbk,hcs⟩:=HOG.out;obtain⟨x,hx⟩:=hcs i hlt;have c0:wr.cell? ((⟨gg,0,none⟩:Addr).add i)=some (.int .u8 (x.toNat:Int)):=by rw[zero_add,hbk.cell,hx];rfl
      have f0:wr.frozen? ((⟨gg,0,none⟩:Addr).add i)=false:=by rw[zero_add];exact hbk.frozen i
      have hx8:=x.toNat_lt;obtain⟨z,hz⟩:∃ z:UInt8,z=x+1:=⟨_,rfl⟩
      have hw8:IntKind.u8.wrap ((x.toNat:Int)+1)=(z.toNat:Int):=by
       rw[hz];have h1:(x+1).toNat=(x.toNat+1) % 256:=UInt8.toNat_add x 1;rw[h1];simp only[IntKind.wrap,IntKind.bits,IntKind.signed];simp
      have HGG:=Zh hgg;obtain⟨pg,hpg⟩:∃ pg:Addr,pg=⟨gg,0,none⟩:=⟨_,rfl⟩
      rw[<- hpg]at c0 f0;have hgg':Ag=some pg:=by rw[hpg];exact hgg
      have HPG:=Zh hpg;clear hbk hcs hx hz hgg hpg;subst hgg';go_wp2;go_roundw;case rel=>
       have e2:pg.add i=⟨gg,i,none⟩:=by rw[HPG.out,zero_add]
       refine⟨i+1,by omega,by go_num,?_,λg2 e=>?_⟩
       ·rw[e2]
        exact HKr.out.setCell (p:=⟨gg,i,none⟩) (.inl ⟨gg,by rw[HPG.out],rfl⟩) _
       ·have:g2=gg:=by
         have h1:=Ya9 e;rw[HPG.out]at h1;cases h1
         rfl
        subst this;rw[e2];exact HOG.out.store i z
      case measure=>simp[intOf];omega
     ·have hlz:¬ ((nb:Int)<(nb:Int)):=by omega
      have di:decide ((i:Int)<(nb:Int))=false:=by simp;omega
      have hop:=Zfe wr Q nb cb0 bs (HBS.out.below HBr.out) HBC.out (by omega);rw[<- HRR.out]at hop;have HROP:=Zh hop;have hsr:=HSO.out.keep HS6.out (λi hi=>HKr.out.block i (HSO.out.lt HS6.out i hi) (λ⟨gg,e1,e2⟩=>by have h1:=HF6.out i hi;have h2:=(HAG.out gg e1).2.1;omega)) HKr.out.size;have HSr:=Zh hsr;clear hop hsr;go_wp2_with fail;refine HROP.out.mono ?_;rintro e w8 ⟨hb8,dg,rfl,-,hsee⟩;have HB8:=Zh (Zaa HBr.out hb8 HBr.out.size);have HSAME:=Zh (Zmr HSO.out HCO.out (HSO.out.below HSr.out hb8) HWF.out hsee);clear hb8 hsee HROP;go_wp2_with fail;refine HSAME.out.mono ?_;rintro e w9 ⟨rfl,hb9⟩;have HB9:=Zh (Zaa HB8.out hb9 HB8.out.size);clear hb9 HSAME;go_wp2;go_ret;exact⟨rfl,HB9.out⟩
 ·have HR:=Zh hR
  obtain⟨rfl,hb⟩:=hso.no hR;replace HB:=Zh (Zaa HB.out hb HB.out.size);replace HE:=Zh (HE.out.below hb);replace HVK:=Zh (HVK.out.below hb HVK.out.lt);have v0:=HVK.out.cell 0;have v1:=HVK.out.cell 1;simp only[lz0,lz1,lz2]at v0 v1;have HRB:=Zh (Zjo z1 A1 B1 D n1 m1 ca1 cb1 n c V1 l HE.out HO1.out (HD.out.below HB.out));clear hso hR hb HU1;go_wp2_with fail;refine HRB.out.mono ?_;intro e z2 hso;obtain⟨rfl,hb⟩:=hso.no HR.out;replace HB:=Zh (Zaa HB.out hb HB.out.size);have hs1':(convert 24 9 (.slice none 0 0)).run Tryz.prog z2=.ok (.string ⟨#[]⟩) z2:=Zdx (Zxe z2) 0;have hxx:((⟨#[]⟩:ByteArray).toList==(⟨#[]⟩:ByteArray).toList)=true:=by simp
  clear hso hb HRB v0 v1;obtain⟨W4,hW4⟩:=Ze (z2.alloc (.cells #[] 5));have hb4:Below z2.heap.size z2 W4:=by rw[hW4];exact(Ybm _ _).alloc (Yar _) _
  have HB4:=Zh hb4;have HL4:=Zh (HBS.out.below (Zaa HB.out hb4 HB.out.size));have HO4:Hid (W4.ownsRow z2.heap.size 5 1 (.slice (some ⟨z2.heap.size,0,none⟩) 0 0) 0 []):=Zh (by rw[hW4];exact Ybx z2 #[] 0 (Yar _) (Ybd _) rfl);have HW4:=Zh hW4;clear hb4 hW4;go_wp2_with (at_builtin;rw[<- HW4.out];refine Zae _ rfl (.tmp 54) (.tmp 55) 24 rfl z2.heap.size 5 i0 (.int .u8 0) 1 Tryz.underlying24 hi hz0 hz1 hz2 rfl _ 0 [] rfl HO4.out Q nb cb0 (bs.map byteV) rfl HL4.out.2.1 (Zbm _) (by unfold maxLen;omega) (by omega) HB4.out.size ?_;intro v w5 hown hgrow hloc;obtain⟨Ag,cap,rfl⟩:=Zac hown;rw[Ya4]at *;rw[Yad]at hown;have HO5:=Zh hown;have HG5:=Zh hgrow;clear hown hgrow hloc;try clear hs1';try clear hs2';try clear hxx);have hcap:nb<=cap:=Zbi HO5.out;have hb5:Below z2.heap.size z2 w5:=HB4.out.grown HG5.out HB4.out.size (λk e=>by cases e;exact Yar _);have HSW:=Zh HB.out.size;replace HB:=Zh (Zaa HB.out hb5 HB.out.size);have hI5:BytesIn w5 Ag nb bs:=BytesIn.own HO5.out (by unfold maxLen;omega);have HZ2:Hid (z2.heap.size<=w5.heap.size/\W.heap.size<=z2.heap.size):=Zh (by have h1:=hb5.size;exact⟨h1,HSW.out⟩);have HAG:Hid (∀ gg,Ag=some ⟨gg,0,none⟩->z2.heap.size<=gg/\gg<w5.heap.size/\OwnB w5 gg nb):=Zh (λgg e=>by
   subst e;have h1:=HO5.out.lt gg rfl;exact⟨h1.1,h1.2,OwnB.of HO5.out HBL.out⟩)
  have HAZ:Hid (nb=0\/∃ gg,Ag=some ⟨gg,0,none⟩):=Zh (by
   rcases HO5.out.2 with⟨_,h0⟩|⟨g',cap',cur,h1,_⟩
   ·exact .inl h0
   ·simp only[Value.slice.injEq]at h1
    exact .inr ⟨g',h1.1⟩)
  have HOPN:=Zh (HSO.out.open_ w5 Ag nb cap bs hI5 hcap (by omega));clear hcap hb5 hI5;obtain⟨R,hRR⟩:=Ze (Zh4 bs);have HRR:=Zh hRR;rw[<- hRR]at HOPN;clear hRR;cases R with
  | none=>
   refine HOPN.out.mono ?_;rintro e w6 ⟨hb6,rfl⟩;have H56:=Zh hb6;replace HB:=Zh (Zaa HB.out hb6 HB.out.size);clear hb6 HOPN;go_wp2;go_loopw [16] (λiv wr=>∃ i:Nat,i<=nb/\iv=.int .i64 i/\Kept (λi=>∃ gg,Ag=some ⟨gg,0,none⟩/\i=gg) w6 wr/\∀ gg,Ag=some ⟨gg,0,none⟩->OwnB wr gg nb) (λiv _=>nb-(intOf iv).toNat);case atStart=>
    refine⟨0,Ybd _,rfl,Kept.refl _ _,λgg e=>?_⟩;obtain⟨h1,h2,cur,h3,h4⟩:=HAG.out gg e;exact⟨cur,h3.below H56.out h2,h4⟩
   case round=>
     obtain⟨i,hil,rfl,hkr,hob⟩:=hrel;have HKr:=Zh hkr;have HOB:=Zh hob;have HBr:Hid (Below W.heap.size W wr):=Zh (HB.out.trans (hkr.toBelow HB.out.size (λj ⟨gg,e1,e2⟩=>by have h1:=(HAG.out gg e1).1;have h2:=HZ2.out.2;omega)));clear hkr hob;rcases Yab i nb with hlt|hge
     ·have di:decide ((i:Int)<(nb:Int))=true:=by simpa using hlt
      have p0:(0:Int)<=(i:Int):=by omega
      have p1:(i:Int)<(nb:Int):=by omega
      have hwi:IntKind.i64.wrap ((i:Int)+1)=(i:Int)+1:=Ybo _ (by omega);obtain⟨gg,hgg⟩:∃ gg,Ag=some ⟨gg,0,none⟩:=by
       rcases HAZ.out with h|h
       ·omega
       ·exact h
      have HOG:=Zh (HOB.out gg hgg);obtain⟨cur,hbk,hcs⟩:=HOG.out;obtain⟨x,hx⟩:=hcs i hlt;have c0:wr.cell? ((⟨gg,0,none⟩:Addr).add i)=some (.int .u8 (x.toNat:Int)):=by rw[zero_add,hbk.cell,hx];rfl
      have f0:wr.frozen? ((⟨gg,0,none⟩:Addr).add i)=false:=by rw[zero_add];exact hbk.frozen i
      have hx8:=x.toNat_lt;obtain⟨z,hz⟩:∃ z:UInt8,z=x+1:=⟨_,rfl⟩
      have hw8:IntKind.u8.wrap ((x.toNat:Int)+1)=(z.toNat:Int):=by
       rw[hz];have h1:(x+1).toNat=(x.toNat+1) % 256:=UInt8.toNat_add x 1;rw[h1];simp only[IntKind.wrap,IntKind.bits,IntKind.signed];simp
      have HGG:=Zh hgg;obtain⟨pg,hpg⟩:∃ pg:Addr,pg=⟨gg,0,none⟩:=⟨_,rfl⟩
      rw[<- hpg]at c0 f0;have hgg':Ag=some pg:=by rw[hpg];exact hgg
      have HPG:=Zh hpg;clear hbk hcs hx hz hgg hpg;subst hgg';go_wp2;go_roundw;case rel=>
       have e2:pg.add i=⟨gg,i,none⟩:=by rw[HPG.out,zero_add]
       refine⟨i+1,by omega,by go_num,?_,λg2 e=>?_⟩
       ·rw[e2]
        exact HKr.out.setCell (p:=⟨gg,i,none⟩) (.inl ⟨gg,by rw[HPG.out],rfl⟩) _
       ·have:g2=gg:=by
         have h1:=Ya9 e;rw[HPG.out]at h1;cases h1
         rfl
        subst this;rw[e2];exact HOG.out.store i z
      case measure=>simp[intOf];omega
     ·have hlz:¬ ((nb:Int)<(nb:Int)):=by omega
      have di:decide ((i:Int)<(nb:Int))=false:=by simp;omega
      have hop:=Zfe wr Q nb cb0 bs (HBS.out.below HBr.out) HBC.out (by omega);rw[<- HRR.out]at hop;have HROP:=Zh hop;clear hop;go_wp2_with fail;refine HROP.out.mono ?_;rintro e w8 ⟨hb8,rfl⟩;have HB8:=Zh (Zaa HBr.out hb8 HBr.out.size);clear hb8 HROP;go_wp2;go_ret;exact⟨rfl,HB8.out⟩
  | some x=>
   obtain⟨D0,T0⟩:=x;have HWF:=Zh (Zni HRR.out.symm);refine HOPN.out.mono ?_;rintro e w6 ⟨hb6,g,F6,rfl,hs6,hF6⟩;have H56:=Zh hb6;have HS6:=Zh hs6;have HF6:=Zh hF6;replace HB:=Zh (Zaa HB.out hb6 HB.out.size);clear hb6 hs6 hF6 HOPN;go_wp2;go_loopw [16] (λiv wr=>∃ i:Nat,i<=nb/\iv=.int .i64 i/\Kept (λi=>∃ gg,Ag=some ⟨gg,0,none⟩/\i=gg) w6 wr/\∀ gg,Ag=some ⟨gg,0,none⟩->OwnB wr gg nb) (λiv _=>nb-(intOf iv).toNat);case atStart=>
    refine⟨0,Ybd _,rfl,Kept.refl _ _,λgg e=>?_⟩;obtain⟨h1,h2,cur,h3,h4⟩:=HAG.out gg e;exact⟨cur,h3.below H56.out h2,h4⟩
   case round=>
     obtain⟨i,hil,rfl,hkr,hob⟩:=hrel;have HKr:=Zh hkr;have HOB:=Zh hob;have HBr:Hid (Below W.heap.size W wr):=Zh (HB.out.trans (hkr.toBelow HB.out.size (λj ⟨gg,e1,e2⟩=>by have h1:=(HAG.out gg e1).1;have h2:=HZ2.out.2;omega)));clear hkr hob;rcases Yab i nb with hlt|hge
     ·have di:decide ((i:Int)<(nb:Int))=true:=by simpa using hlt
      have p0:(0:Int)<=(i:Int):=by omega
      have p1:(i:Int)<(nb:Int):=by omega
      have hwi:IntKind.i64.wrap ((i:Int)+1)=(i:Int)+1:=Ybo _ (by omega);obtain⟨gg,hgg⟩:∃ gg,Ag=some ⟨gg,0,none⟩:=by
       rcases HAZ.out with h|h
       ·omega
       ·exact h
      have HOG:=Zh (HOB.out gg hgg);obtain⟨cur,hbk,hcs⟩:=HOG.out;obtain⟨x,hx⟩:=hcs i hlt;have c0:wr.cell? ((⟨gg,0,none⟩:Addr).add i)=some (.int .u8 (x.toNat:Int)):=by rw[zero_add,hbk.cell,hx];rfl
      have f0:wr.frozen? ((⟨gg,0,none⟩:Addr).add i)=false:=by rw[zero_add];exact hbk.frozen i
      have hx8:=x.toNat_lt;obtain⟨z,hz⟩:∃ z:UInt8,z=x+1:=⟨_,rfl⟩
      have hw8:IntKind.u8.wrap ((x.toNat:Int)+1)=(z.toNat:Int):=by
       rw[hz];have h1:(x+1).toNat=(x.toNat+1) % 256:=UInt8.toNat_add x 1;rw[h1];simp only[IntKind.wrap,IntKind.bits,IntKind.signed];simp
      have HGG:=Zh hgg;obtain⟨pg,hpg⟩:∃ pg:Addr,pg=⟨gg,0,none⟩:=⟨_,rfl⟩
      rw[<- hpg]at c0 f0;have hgg':Ag=some pg:=by rw[hpg];exact hgg
      have HPG:=Zh hpg;clear hbk hcs hx hz hgg hpg;subst hgg';go_wp2;go_roundw;case rel=>
       have e2:pg.add i=⟨gg,i,none⟩:=by rw[HPG.out,zero_add]
       refine⟨i+1,by omega,by go_num,?_,λg2 e=>?_⟩
       ·rw[e2]
        exact HKr.out.setCell (p:=⟨gg,i,none⟩) (.inl ⟨gg,by rw[HPG.out],rfl⟩) _
       ·have:g2=gg:=by
         have h1:=Ya9 e;rw[HPG.out]at h1;cases h1
         rfl
        subst this;rw[e2];exact HOG.out.store i z
      case measure=>simp[intOf];omega
     ·have hlz:¬ ((nb:Int)<(nb:Int)):=by omega
      have di:decide ((i:Int)<(nb:Int))=false:=by simp;omega
      have hop:=Zfe wr Q nb cb0 bs (HBS.out.below HBr.out) HBC.out (by omega);rw[<- HRR.out]at hop;have HROP:=Zh hop;have hsr:=HSO.out.keep HS6.out (λi hi=>HKr.out.block i (HSO.out.lt HS6.out i hi) (λ⟨gg,e1,e2⟩=>by have h1:=HF6.out i hi;have h2:=(HAG.out gg e1).2.1;omega)) HKr.out.size;have HSr:=Zh hsr;clear hop hsr;go_wp2_with fail;refine HROP.out.mono ?_;rintro e w8 ⟨hb8,dg,rfl,-,hsee⟩;have HB8:=Zh (Zaa HBr.out hb8 HBr.out.size);have HSAME:=Zh (Zmr HSO.out HCO.out (HSO.out.below HSr.out hb8) HWF.out hsee);clear hb8 hsee HROP;go_wp2_with fail;refine HSAME.out.mono ?_;rintro e w9 ⟨rfl,hb9⟩;have HB9:=Zh (Zaa HB8.out hb9 HB8.out.size);clear hb9 HSAME;go_wp2;go_ret;exact⟨rfl,HB9.out⟩
end Go.Proofs.YthcjikpabpgpfaaGreat
