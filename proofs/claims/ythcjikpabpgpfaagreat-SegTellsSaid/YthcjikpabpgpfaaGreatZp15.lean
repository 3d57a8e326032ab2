import Derived.Test.YthcjikpabpgpfaaGreatZp12
import Derived.StillTailTactics
import Derived.Maps.AppendAt
import Derived.Deep.AppendLies
import Derived.Test.YthcjikpabpgpfaaGreatZp10
import Derived.Test.YthcjikpabpgpfaaGreatZp9
import Derived.Deep.RegionHeld3
import Derived.Deep.DeepCutAuto
import Derived.Deep.QuietTactic
import Derived.BigQuiet
set_option linter.unusedSimpArgs false
set_option maxHeartbeats 16000000
set_option maxRecDepth 100000
namespace Go.Proofs.YthcjikpabpgpfaaGreat
open Go.RowKit Go.Maps Go.WideMaps
theorem IsGrow.tok {w:World} {F:Nat->Prop} {b:Nat} {V:Voc} {tv mv:Value} {bt bp:Nat} {svs:List Value} {DT DP:DataW Unit} (h:IsGrow w F b V tv mv bt bp svs DT DP) {i:Nat} {x:Nm} (hx:V.tok[i]?=some x):
  ∃ ad n c A k,tv=.slice (some ad) n c/\i<n/\w.cell? (ad.add i)=some (.slice A x.length k)/\x.length<=k/\BytesIn w A x.length x:=by
 obtain⟨A0,c0,e0⟩:=Zac h.trow;have hi:=(Ybb.1 hx).1;have hl:svs.length=V.tok.length:=by have:=h.trow.1;simpa using this
 have hs:svs[i]?=some (svs[i]'(by omega)):=Yax _;obtain⟨A,k,h1,h2,h3,_⟩:=h.toks i _ x hs hx;have ht:=h.trow;rw[e0]at ht;have hsrc:=Zbj ht;cases A0 with
 | none=>have:=hsrc.nil rfl;omega
 | some ad=>
  have:=hsrc.cells ad rfl i _ hs
  rw[h1]at this;exact⟨ad,_,_,A,k,e0,hi,this,h2,h3⟩
theorem Zvv (w:World) (F:Nat->Prop) (b:Nat) (V:Voc) (hG:Grow w F b V) (i j:Nat) (x y:Nm) (hx:V.tok[i]?=some x) (hy:V.tok[j]?=some y) (h0:0<x.length+y.length) (hxl:x.length<=1048576) (hyl:y.length<=1048576):
  Calls Tryz.prog 138 #[at0 b,.agg #[.int .i64 i,.int .i64 j]] w λe w'=>∃ v,e=.returned v/\w'.ownsRow w.heap.size 5 1 v (x.length+y.length) ((x++y).map byteV)/\Below w.heap.size w w':=by
 obtain⟨tv,mv,bt,bp,svs,DT,DP,h⟩:=hG;obtain⟨ad,n,c,A,k,rfl,hi,ei,hk,hA⟩:=h.tok hx;obtain⟨_,_,_,B,k2,e2,hj,ej,hk2,hB⟩:=h.tok hy;cases e2
 have HBK:=Zh h.blk;have b1:Below w.heap.size w (w.alloc (.cells #[.int .i64 i,.int .i64 j] 73)):=(Ybm _ w).alloc (Yar _) _;obtain⟨W1,hW1⟩:=Ze (w.alloc (.cells #[.int .i64 i,.int .i64 j] 73));have hpb:Blk W1 w.heap.size 73 #[.int .i64 i,.int .i64 j]:=by rw[hW1];exact Blk.new _ _ _
 rw[<- hW1]at b1;have HB1:=Zh b1;have HA:=Zh (hA.below b1);have HB:=Zh (hB.below b1);have g0:W1.cell? ⟨b,0,none⟩=some (.slice (some ad) n c):=by
  have:=(HBK.out.below b1 HBK.out.lt).cell 0
  simpa using this
 have g1:W1.cell? ⟨w.heap.size,0,none⟩=some (.int .i64 i):=by
  have:=hpb.cell 0
  simpa using this
 have g2:W1.cell? ⟨w.heap.size,1,none⟩=some (.int .i64 j):=by
  have:=hpb.cell 1
  simpa using this
 have g3:W1.cell? (ad.add i)=some (.slice A x.length k):=(b1.cell (Ycb w _ ei)).trans ei;have g4:W1.cell? (ad.add j)=some (.slice B y.length k2):=(b1.cell (Ycb w _ ej)).trans ej;have hiz:(i:Int)<(n:Int):=by omega
 have hjz:(j:Int)<(n:Int):=by omega
 have hi0:(0:Int)<=(i:Int):=by omega
 have hj0:(0:Int)<=(j:Int):=by omega
 clear h ei ej hA hB b1 hpb hx hy;have HW:=Zh hW1;clear hW1;unfold at0;go_enter Tryz.func138,Tryz.ntmps138;go_wp2_with fail;rw[<- HW.out];go_still_tail 18,(by kernel_rfl);change wpList _ _ _ _ _ W1.drew;have hs1:W1.heap.size=w.heap.size+1:=by rw[HW.out];simp
 obtain⟨W2,hW2⟩:=Ze ((W1.alloc (.cells #[.slice A x.length k,.slice B y.length k2] 24)).drew);have hb2:Below w.heap.size w W2:=by rw[hW2];exact(HB1.out.alloc (by omega) _).drew
 have hn:Blk W2 (w.heap.size+1) 24 #[.slice A x.length k,.slice B y.length k2]:=by rw[hW2,<- hs1];exact Blk.new W1 _ _
 have hbd:Below W1.heap.size W1 W2:=by rw[hW2];exact((Ybm _ W1).alloc (Yar _) _).drew
 have HW2:=Zh hW2;have HN:=Zh hn;have HA2:=Zh (HA.out.below hbd);have HB2:=Zh (HB.out.below hbd);have HBB:=Zh hb2;clear hW2 hbd;clear g0 g1 g2 g3 g4 hn hb2 HA HB HB1;go_wp2_with fail;rw[<- HW2.out];refine(Zu5 W2 (w.heap.size+1) A B x.length y.length k k2 x y HN.out HA2.out HB2.out h0 hxl hyl).mono ?_;rintro e w2 ⟨v,rfl,hown,hb⟩;have HO:=Zh (Go.Joins.ownsRow_le hown HBB.out.size);have HF:=Zh (Zaa HBB.out hb HBB.out.size);clear hown hb hs1;go_wp2;go_ret;exact⟨_,rfl,HO.out,HF.out⟩
theorem BytesIn.keptF {w w':World} {F:Nat->Prop} {A:Option Addr} {n:Nat} {l:Nm} (h:BytesIn w A n l) (hk:Kept F w w') (ha:∀ ad,A=some ad->0<n->¬ F ad.block):BytesIn w' A n l:=
 ⟨h.1,h.2.1.keep λad e h0=>hk.block _ (h.2.2 ad e h0) (ha ad e h0),λad e h0=>Ya7 (h.2.2 ad e h0) hk.size⟩
theorem Qen {x:Nm} (h:x.length<=maxLen):keyOf Tryz.prog 9 (.string ⟨x.toArray⟩)=some (.string x):=by
 have:=keyOf_string_mk Tryz.underlying9 (s:=⟨x.toArray⟩) (by simpa[ByteArray.size]using h)
 simpa using this
theorem Zou (w:World) (F:Nat->Prop) (b:Nat) (V:Voc) (hG:Grow w F b V) (A:Option Addr) (n c:Nat) (x:Nm) (hx:TokIn w F (.slice A n c) x) (hnew:Zbb V.tok x<0) (hl:V.tok.length<1048576):
  Calls Tryz.prog 89 #[at0 b,.slice A n c] w λe w'=>e=.returned (.int .i64 V.tok.length)/\Grow w' (Own F w w') b ⟨V.tok++[x],V.mer⟩/\Kept F w w':=by
 obtain⟨tv,mv,bt,bp,svs,DT,DP,h⟩:=hG;obtain⟨A',c',e1,hc,hA,hap⟩:=hx;cases e1
 obtain⟨At,ct,rfl⟩:=Zac h.trow;obtain⟨i0,hi,hz0,hz1,hz2⟩:=info_parts Zgf;have HH:=Zh h;have HA:=Zh hA;have HAP:=Zh hap;have HNEW:=Zh hnew;have HC:=Zh hc;obtain⟨k,hk⟩:=Ze V.tok.length;have g0:=h.blk.cell 0;simp only[lz0,lz1]at g0;have hrow:=h.trow;have hfv:=h.fv;rw[<- hk]at g0 hrow hl hfv ⊢;have HFV:=Zh hfv;have HR:=Zh hrow;have HK:=Zh hk;have HNB:=Zh (Zah hrow h.blk (by decide));have HBK:=Zh h.blk;rw[<- hk]at HBK;clear h hA hap hnew hrow hk hc hfv;unfold at0;go_enter Tryz.func89,Tryz.ntmps89;go_wp2_with (at_builtin;refine wpList_append_own_at _ rfl _ _ 27 rfl 0 24 i0 (.slice none 0 0) 1 24 Tryz.underlying27 hi hz0 hz1 hz2 rfl (by decide) _ k svs rfl (HR.out.alloc _) ⟨w.heap.size,0,none⟩ 1 1 [.slice A x.length c] rfl rfl (cell_one_new _ _ _) (by simp[Value.oneCell']) (by unfold maxLen;omega) (by omega) (Ybd _) ?_;intro v' w2 hown' hg2 hnil hloc;obtain⟨A2,c2,hv⟩:=Zac hown';rw[hv];clear hnil;have HV:=Zh hv;clear hv;have HB2:=Zh ((HBK.out.alloc (.cells #[.slice A x.length c] 24)).grown hg2 (λe=>HNB.out e.symm));have z0:=HB2.out.frozen 0;have e0:=HB2.out.cell 0;simp at e0;have HOWN:=Zh hown';have HG2:=Zh hg2;have HLOC:=Zh hloc;clear hown' hg2 hloc);have h:=HH.out;have hg2:=HG2.out;have hown:=HOWN.out;have hlt:=h.lt;have hsz:w.heap.size<w2.heap.size:=Ya7 (by simp) hg2.size;have hkp:Kept F w (w2.setCell ⟨b,0,none⟩ (.slice A2 (k+1) c2)):=((((Kept.refl F w).alloc _).grown hg2 (λg hg=>.inl (HFV.out g hg)))).setCell (.inl h.fb) _;have hcell:∀ i,i<w.heap.size->i≠b->(Value.slice At k ct).ownBlock≠some i->(w2.setCell ⟨b,0,none⟩ (.slice A2 (k+1) c2)).heap[i]?=w.heap[i]?:=λi hi h1 h2=>by
  rw[Zad _ _ _ h1,hg2.block i (by simp;omega) (λe=>h2 e.symm),Ybn _ _ _ (by omega)]
 have hblk:Blk (w2.setCell ⟨b,0,none⟩ (.slice A2 (k+1) c2)) b 221 #[.slice A2 (k+1) c2,mv,.map (some bt),.map (some bp)]:=by
  have:=HB2.out.set_ 0 (.slice A2 (k+1) c2)
  simpa using this
 rw[HV.out]at hown;have nbt:b≠bt:=h.blk.ne_map h.tmap;have ntt:(Value.slice At k ct).ownBlock≠some bt:=Za6 HR.out h.tmap;have hrow3:(w2.setCell ⟨b,0,none⟩ (.slice A2 (k+1) c2)).ownsRow 0 24 1 (.slice A2 (k+1) c2) (k+1) (svs++[.slice A x.length c]):=
  Zab hown λg hg=>Zad _ _ _ λe=>Zah hown HB2.out (by decide) (by rw[hg,e])
 have hsz3:(w2.setCell ⟨b,0,none⟩ (.slice A2 (k+1) c2)).heap.size=w2.heap.size:=Zai _ _ _;obtain⟨w3,hw3⟩:=Ze (w2.setCell ⟨b,0,none⟩ (.slice A2 (k+1) c2));rw[<- hw3]at hkp hcell hblk hrow3 hsz3 ⊢;have htm:Zxv w3 bt k DT:=by rw[HK.out];exact Zap h.tmap (hcell bt (hlt bt h.ft) nbt.symm ntt)
 have hA3:=HA.out.keptF hkp HAP.out;have hx63:x.length<=maxLen:=HA.out.1;have hkey:=Qen hx63;have hcv:(convert 24 9 (.slice A x.length c)).run Tryz.prog w3.drew=.ok (.string ⟨x.toArray⟩) w3.drew:=Zdx hA3.drew c;have g2:=hblk.cell 2;simp only[lz0,lz1,lz2]at g2;have HW3:=Zh hw3;have HKP:=Zh hkp;have HCELL:=Zh hcell;have HBLK:=Zh hblk;have HROW3:=Zh hrow3;have HTM:=Zh htm;have HNBT:=Zh nbt;have HNTT:=Zh ntt;have HLT:=Zh hlt;have HSZ:=Zh hsz;have HSZ3:=Zh hsz3;clear h hg2 hown hlt hsz hkp hcell hblk nbt ntt hrow3 hw3 htm hA3 hx63 z0 e0 g0 hsz3;go_still_tail 7,(by kernel_rfl);change wpList _ _ _ _ _ w3.drew;go_wp2_with (at_mapUpdate;refine wpList_mapUpdate_own _ rfl _ _ _ 218 rfl 9 3 Qct Tryz.underlying218 (plainElem Tryz.prog 3) bt k DT rfl HTM.out.drew (by unfold maxLen;omega) _ _ (.string x) rfl rfl hkey (.lit (.int .i64 (k:Int))) [] (plainElem_int Tryz.underlying3 (WalkArith.wf_i64 (by omega))) ?_;intro w4 hown4 hgrow4;have HO4:=Zh hown4;have HG4:=Zh hgrow4;clear hown4 hgrow4);go_ret;have h:=HH.out;have hsz4:w3.heap.size<=w4.heap.size:=HG4.out.size;have hs3:=HSZ3.out;have hs:=HSZ.out;have hb4:∀ i,i<w3.heap.size->i≠bt->w4.heap[i]?=w3.heap[i]?:=λi h1 h2=>HG4.out.block i h1 (by simpa using h2);have hkp4:Kept F w w4:=HKP.out.drew.grown HG4.out (λg hg=>by cases hg;exact .inl h.ft);have hF:∀ i,Own F w w4 i->F i\/w.heap.size<=i:=λi hi=>hi.imp id (·.1);have hown3:w3.ownsMap Tryz.prog 9 (plainElem Tryz.prog 3) bt k DT:=HTM.out;have hloc:∀ g,(Value.slice A2 (k+1) c2).ownBlock=some g->Own F w w4 g:=λg hg=>by
  have hl:=HLOC.out;rw[HV.out]at hl;rcases hl with hl|hl
  ·exact .inl (HFV.out g (hl.symm.trans hg))
  ·refine .inr ?_
   have hlt:=(HROW3.out.lt g hg).2;rw[hl]at hg;simp at hg;omega
 refine⟨rfl,⟨.slice A2 (k+1) c2,mv,bt,bp,svs++[.slice A x.length c],DT.put (.string x) (.lit (.int .i64 (k:Int))),DP,?_⟩,hkp4⟩;have hlen:(V.tok++[x]).length=k+1:=by rw[HK.out];simp
 have hcl:svs.length=k:=by have:=HR.out.1;simpa using this
 have hold:∀ i,i<w.heap.size->i≠b->(Value.slice At k ct).ownBlock≠some i->i≠bt->w4.heap[i]?=w.heap[i]?:=λi h0 h1 h2 h3=>(hb4 i (by omega) h3).trans (HCELL.out i h0 h1 h2);exact {
  blk:=HBLK.out.same (hb4 b HBLK.out.lt HNBT.out)
  trow:=by
   show w4.ownsRow 0 24 1 _ (V.tok++[x]).length _;rw[hlen];exact Zab HROW3.out λg hg=>hb4 g (HROW3.out.lt g hg).2 λe=>Za6 HROW3.out hown3 (by rw[hg,e])
  toks:=λi sv y h1 h2=>by
   rcases Yab i k with hik|hik
   ·rw[Yba (by omega)]at h1
    have h2':(V.tok++[x])[i]?=some y:=h2;rw[Yba (by rw[<- HK.out];exact hik)]at h2';exact(h.toks i sv y h1 h2').mono hkp4 (λ_ hf=>hf) hF
   ·have h2':(V.tok++[x])[i]?=some y:=h2
    have hi':=(Ybb.1 h2').1;obtain rfl:i=k:=by omega
    rw[Ybc (by omega),hcl,Ybq]at h1;rw[Ybc (by rw[<- HK.out];exact Yar _),<- HK.out,Ybq]at h2';cases h1
    cases h2'
    exact TokIn.mono ⟨A,c,rfl,HC.out,HA.out,HAP.out⟩ hkp4 (λ_ hf=>hf) hF
  mrow:=Zab h.mrow λg hg=>by
   have hgl:=h.lt g (h.fm g hg);exact hold g hgl (λe=>Zah h.mrow h.blk (by decide) (by rw[hg,e])) (λe=>Za7 HR.out h.mrow (by decide) g e hg) (λe=>Za6 h.mrow h.tmap (by rw[hg,e]))
  fits:=h.fits
  tmap:=by
   show Zxv w4 bt (V.tok++[x]).length _;rw[hlen];exact HO4.out
  pmap:=Zap h.pmap (hold bp (h.lt bp h.fp) (h.blk.ne_map h.pmap).symm (Za6 HR.out h.pmap) h.nob.symm)
  isT:=by
   have:=h.isT.put HNEW.out
   rw[<- HK.out]at this;exact this
  isP:=h.isP
  nob:=h.nob
  fb:=.inl h.fb
  ft:=.inl h.ft
  fp:=.inl h.fp
  fv:=hloc
  fm:=λg hg=>.inl (h.fm g hg)
  lt:=λi hi=>by
   rcases hi with hi|hi
   ·have:=h.lt i hi;omega
   ·exact hi.2 }
theorem Zdh {H:Type} {P:Program} (w:World) {ops:Array Oper} {o:Oper} {a:Act} {K':Act->World->Prop} {Q:Exit->Act->World->Prop} {E:Prop}
  (hg:o.guard=none) (m x v:Operand) (t:TypeId) (hop:o.op=Op.mapUpdate t m x v)
  (k e:TypeId) (K:Keyed P k) (ht:P.underlying t=some (.map k e)) (R:Value->Option (DataW H×List MemPlace)) (b n:Nat) (D:DataW H)
  (hm:a.eval m=.map (some b)) (hown:w.ownsMap P k R b n D) (hn:n<maxLen) (key val:Value) (kl:Lit) (hx:a.eval x=key) (hv:a.eval v=val) (hkey:keyOf P k key=some kl)
  (d:DataW H) (ps:List MemPlace) (hval:R val=some (d,ps))
  (hK:∀ w',w'.ownsMap P k R b (n+1) (D.put kl d)->w.grownBy w' (some b)->K' (a.put o.dst undef) w'):
  if Region.wanted o (yielded ops a.tmps)=true then Oper.wp P o a w K' Q else E:=by
 have hw:Region.wanted o (yielded ops a.tmps)=true:=by simp[Region.wanted,hg]
 rw[Yag hw];obtain⟨w',hrun,r1,r2⟩:=hown.update K ht hn hkey hval;unfold Oper.wp;simp[execOp,hop,hm,hx,hv,hrun,Result.andThen];exact hK w' r1 r2
theorem Zo2 (w:World) (F:Nat->Prop) (b:Nat) (V:Voc) (hG:Grow w F b V) (m:Mg) (hm:Zjn m) (hl:V.mer.length<1048576):
  Calls Tryz.prog 92 #[at0 b,.agg #[.int .i64 m.a,.int .i64 m.b,.int .i64 m.t]] w λe w'=>e=.returned (.tuple #[])/\Grow w' (Own F w w') b ⟨V.tok,V.mer++[m]⟩/\Kept F w w':=by
 obtain⟨tv,mv,bt,bp,svs,DT,DP,h⟩:=hG;obtain⟨At,ct,rfl⟩:=Zac h.mrow;obtain⟨i0,hi,hz0,hz1,hz2⟩:=info_parts Zk2;have HH:=Zh h;obtain⟨k,hk⟩:=Ze V.mer.length;have g1:=h.blk.cell 1;simp only[lz0,lz1,lz2]at g1;have hrow:=h.mrow;have hfv:=h.fm;have hnb:=Zah hrow h.blk (by decide);have hbk:=h.blk;rw[<- hk]at g1 hrow hl hfv hnb hbk;have HR:=Zh hrow;have HFV:=Zh hfv;have HK:=Zh hk;have HNB:=Zh hnb;have b1:Below w.heap.size w (w.alloc (.cells #[.int .i64 m.a,.int .i64 m.b,.int .i64 m.t] 88)):=(Ybm _ w).alloc (Yar _) _;obtain⟨W1,hW1⟩:=Ze (w.alloc (.cells #[.int .i64 m.a,.int .i64 m.b,.int .i64 m.t] 88));have hpb:Blk W1 w.heap.size 88 #[.int .i64 m.a,.int .i64 m.b,.int .i64 m.t]:=by rw[hW1];exact Blk.new _ _ _
 rw[<- hW1]at b1;have g1':=(hbk.below b1 hbk.lt).cell 1;simp only[lz0,lz1,lz2]at g1';have HBK:=Zh (hbk.below b1 hbk.lt);have m0:=hpb.cell 0;have m1:=hpb.cell 1;have m2:=hpb.cell 2;simp only[lz0,lz1,lz2]at m0 m1 m2;have HW:=Zh hW1;have HPB:=Zh hpb;have HB1:=Zh b1;clear h hrow hk hfv hW1 hpb g1 hnb hbk b1;unfold at0;go_enter Tryz.func92,Tryz.ntmps92;go_wp2_with fail;rw[<- HW.out];have hown2:(W1.drew.alloc (.cells #[.int .i64 m.a,.int .i64 m.b,.int .i64 m.t] 88)).ownsRow 0 88 3 (.slice At k ct) k (V.mer.flatMap Zav):=by
  have h1:W1.ownsRow 0 88 3 (.slice At k ct) k (V.mer.flatMap Zav):=by rw[HW.out];exact HR.out.alloc _
  exact Yb6 (w:=W1.drew) h1 _
 have hnews:∀ (j:Nat) (u:Value),(Zav m)[j]?=some u->(W1.drew.alloc (.cells #[.int .i64 m.a,.int .i64 m.b,.int .i64 m.t] 88)).cell? ((⟨W1.heap.size,0,none⟩:Addr).add j)=some u:=λj u hu=>by
  have hn:Blk (W1.drew.alloc (.cells #[.int .i64 m.a,.int .i64 m.b,.int .i64 m.t] 88)) W1.heap.size 88 #[.int .i64 m.a,.int .i64 m.b,.int .i64 m.t]:=Blk.new W1.drew _ _;have e:(⟨W1.heap.size,0,none⟩:Addr).add j=⟨W1.heap.size,j,none⟩:=by unfold Addr.add;split<;>simp_all
  rw[e,hn.cell j];simpa[Zav]using hu
 have hone:∀ u∈Zav m,u.oneCell'=true:=by simp[Zav,Value.oneCell']
 have HO2:=Zh hown2;have HNW:=Zh hnews;have g1'':=(HBK.out.alloc (.cells #[.int .i64 m.a,.int .i64 m.b,.int .i64 m.t] 88)).cell 1;simp only[lz0,lz1,lz2]at g1'';clear hown2 hnews;go_region_law (refine step_append_lies _ rfl (.tmp 9) (.tmp 11) 28 rfl 0 88 i0 _ 3 24 Tryz.underlying28 hi hz0 hz1 hz2 rfl (by decide) (.slice At k ct) k _ rfl HO2.out ⟨W1.heap.size,0,none⟩ 1 1 (Zav m) rfl rfl HNW.out hone (by omega) (by unfold maxLen;omega) (by omega) (Ybd _) _ rfl ?_;intro g cap w3 hown' hg2 hloc hlt2;have HB3:=Zh (Blk.grown (Blk.alloc (w:=W1.drew) HBK.out (.cells #[.int .i64 m.a,.int .i64 m.b,.int .i64 m.t] 88)) hg2 (λe=>HNB.out e.symm));have z1:=HB3.out.frozen 1;have e1:=HB3.out.cell 1;simp at e1;have HOWN:=Zh hown';have HG2:=Zh hg2;have HLOC:=Zh hloc;have HLT2:=Zh hlt2;clear hown' hg2 hloc hlt2)
 ·have h:=HH.out
  have hg2:=HG2.out;have hown:=HOWN.out;have hlt:=h.lt;have hW1s:W1.heap.size=w.heap.size+1:=by rw[HW.out];simp
  have hsz:w.heap.size+2<=w3.heap.size:=Ybu (by show _<=(W1.heap.push _).size;simp;omega) hg2.size;have hkp:Kept F w (w3.setCell ⟨b,1,none⟩ (.slice (some ⟨g,0,none⟩) (k+1) cap)):=(((((Kept.below HB1.out).drew.alloc _).grown hg2 (λg hg=>.inl (HFV.out g hg)))).setCell (.inl h.fb) _)
  have hcell:∀ i,i<w.heap.size+1->i≠b->(Value.slice At k ct).ownBlock≠some i->(w3.setCell ⟨b,1,none⟩ (.slice (some ⟨g,0,none⟩) (k+1) cap)).heap[i]?=W1.heap[i]?:=λi hi h1 h2=>by
   rw[Zad _ _ _ h1,hg2.block i (by show _<(W1.heap.push _).size;simp;omega) (λe=>h2 e.symm)];exact Ybn W1 _ _ (by omega)
  have hblk:Blk (w3.setCell ⟨b,1,none⟩ (.slice (some ⟨g,0,none⟩) (k+1) cap)) b 221 #[tv,(.slice (some ⟨g,0,none⟩) (k+1) cap),.map (some bt),.map (some bp)]:=by
   have:=HB3.out.set_ 1 (.slice (some ⟨g,0,none⟩) (k+1) cap)
   simpa using this
  have nbp:b≠bp:=h.blk.ne_map h.pmap;have ntp:(Value.slice At k ct).ownBlock≠some bp:=Za6 HR.out h.pmap;have hrow3:(w3.setCell ⟨b,1,none⟩ (.slice (some ⟨g,0,none⟩) (k+1) cap)).ownsRow 0 88 3 (.slice (some ⟨g,0,none⟩) (k+1) cap) (k+1) (V.mer.flatMap Zav++Zav m):=
   Zab hown λg hg=>Zad _ _ _ λe=>Zah hown HB3.out (by decide) (by rw[hg,e])
  have hsz3:(w3.setCell ⟨b,1,none⟩ (.slice (some ⟨g,0,none⟩) (k+1) cap)).heap.size=w3.heap.size:=Zai _ _ _;obtain⟨w4,hw4⟩:=Ze (w3.setCell ⟨b,1,none⟩ (.slice (some ⟨g,0,none⟩) (k+1) cap));rw[<- hw4]at hkp hcell hblk hrow3 hsz3 ⊢;have hblt:b<w.heap.size:=hlt b h.fb;have hnw:(Value.slice At k ct).ownBlock≠some w.heap.size:=λe=>by have:=hlt _ (HFV.out _ e);omega
  have hpm:Zip w4 bp k DP:=by rw[HK.out];exact Zap h.pmap ((hcell bp (by have:=hlt bp h.fp;omega) nbp.symm ntp).trans (HB1.out.block bp (hlt bp h.fp)))
  have hpb:Blk w4 w.heap.size 88 #[.int .i64 m.a,.int .i64 m.b,.int .i64 m.t]:=HPB.out.same (hcell _ (by omega) (by omega) hnw);have q0:=hblk.cell 3;have q1:=hpb.cell 0;have q2:=hpb.cell 1;have q3:=hpb.cell 2;simp only[lz0,lz1,lz2]at q0 q1 q2 q3;have HW4:=Zh hw4;have HKP:=Zh hkp;have HCELL:=Zh hcell;have HBLK:=Zh hblk;have HROW3:=Zh hrow3;have HPM:=Zh hpm;have HNBP:=Zh nbp;have HNTP:=Zh ntp;have HLT:=Zh hlt;have HSZ:=Zh hsz;have HSZ3:=Zh hsz3;have HBLT:=Zh hblt;clear h hg2 hown hlt hsz hkp hcell hblk nbp ntp hrow3 hw4 hpm z1 e1 hsz3 hpb hW1s hnw hblt g1' g1'' m0 m1 m2 hone;go_wp2_with fail;refine Yb8 (S:=λw'=>w'.cell? ⟨b,3,none⟩=some (.map (some bp))/\w'.cell? ⟨w.heap.size,0,none⟩=some (.int .i64 m.a)/\w'.cell? ⟨w.heap.size,1,none⟩=some (.int .i64 m.b)/\w'.cell? ⟨w.heap.size,2,none⟩=some (.int .i64 m.t)) (by kernel_rfl) ?_ (λhHeld=>?_)
  ·exact⟨q0,q1,q2,q3⟩
  refine tk 0 ?_;try simp only[Act.put,lz3,lz4,lz5]
  refine tk 1 ?_;try simp only[Act.put,lz3,lz4,lz5]
  refine tk 2 ?_;try simp only[Act.put,lz3,lz4,lz5]
  refine tk 3 ?_;try simp only[Act.put,lz3,lz4,lz5]
  refine tk 4 ?_;try simp only[Act.put,lz3,lz4,lz5]
  refine tk 6 ?_;try simp only[Act.put,lz3,lz4,lz5]
  refine rd1 5 ?_;intro K hK;go_simp;refine(Zgt _ m.a m.b m.t).mono ?_;rintro e w5 ⟨rfl,hb5'⟩;have hb5:Below w4.heap.size w4 w5:=Zaa (Ybm _ w4).drew hb5' (Yar _);have hS5:(λw'=>w'.cell? ⟨b,3,none⟩=some (.map (some bp))/\w'.cell? ⟨w.heap.size,0,none⟩=some (.int .i64 m.a)/\w'.cell? ⟨w.heap.size,1,none⟩=some (.int .i64 m.b)/\w'.cell? ⟨w.heap.size,2,none⟩=some (.int .i64 m.t)) w5:=⟨Zag hb5 q0,Zag hb5 q1,Zag hb5 q2,Zag hb5 q3⟩
  have HB5:=Zh hb5;clear hb5 hb5';go_wp2_with fail;refine hK.out _ _ hS5 (λ_=>?_);clear hK K;try simp only[Act.put,lz3,lz4,lz5]
  refine rd1 7 ?_;intro K hK;refine Zdh _ rfl _ _ _ 219 rfl 73 150 Ziy Tryz.underlying219 unitElem bp k DP rfl (Zap HPM.out (HB5.out.block bp HPM.out.lt)) (by unfold maxLen;omega) _ _ (pk m.a m.b) rfl rfl (Zcn hm.1 hm.2.1) (.agg []) [] unitElem_mk ?_;intro w6 hown6 hg6;have hbb:∀ i,i<w4.heap.size->i≠bp->w6.heap[i]?=w4.heap[i]?:=λi h1 h2=>(hg6.block i (by have:=HB5.out.size;omega) (λe=>h2 (Ya9 e))).trans (HB5.out.block i h1);have hs6:w4.heap.size<=w6.heap.size:=Ybu HB5.out.size hg6.size;have hwp:w.heap.size≠bp:=λe=>by have:=HLT.out bp HH.out.fp;omega
  have hw4s:w.heap.size<w4.heap.size:=by have:=HSZ.out;have:=HSZ3.out;omega
  have hS6:(λw'=>w'.cell? ⟨b,3,none⟩=some (.map (some bp))/\w'.cell? ⟨w.heap.size,0,none⟩=some (.int .i64 m.a)/\w'.cell? ⟨w.heap.size,1,none⟩=some (.int .i64 m.b)/\w'.cell? ⟨w.heap.size,2,none⟩=some (.int .i64 m.t)) w6:=⟨(Yb4 (a:=⟨b,3,none⟩) (hbb b HBLK.out.lt HNBP.out)).trans q0,(Yb4 (a:=⟨w.heap.size,0,none⟩) (hbb _ hw4s hwp)).trans q1,(Yb4 (a:=⟨w.heap.size,1,none⟩) (hbb _ hw4s hwp)).trans q2,(Yb4 (a:=⟨w.heap.size,2,none⟩) (hbb _ hw4s hwp)).trans q3⟩
  have HO6:=Zh hown6;have hkp6:Kept F w w6:=(HKP.out.trans (F':=λ_=>False) (Kept.below HB5.out) (λ_ _ h=>h.elim)).grown hg6 (λg hg=>by cases hg;exact .inl HH.out.fp);have HKP6:=Zh hkp6;have HBB:=Zh hbb;have HS6:=Zh hs6;have HW4S:=Zh hw4s;clear hown6 hg6 hbb hs6 hkp6 hwp hw4s;refine hK.out _ _ hS6 (λ_=>?_);clear hK K;refine Yb9 (by kernel_rfl) ?_ _;go_wp2;go_end0;have h:=HH.out;have hF:∀ i,Own F w w6 i->F i\/w.heap.size<=i:=λi hi=>hi.imp id (·.1);have hpm4:w4.ownsMap Tryz.prog 73 unitElem bp k DP:=HPM.out;have hlen:(V.mer++[m]).length=k+1:=by rw[HK.out];simp
  have hold:∀ i,i<w.heap.size->i≠b->(Value.slice At k ct).ownBlock≠some i->i≠bp->w6.heap[i]?=w.heap[i]?:=λi h0 h1 h2 h3=>((HBB.out i (by have:=HW4S.out;omega) h3).trans (HCELL.out i (by omega) h1 h2)).trans (HB1.out.block i h0);have hrow:tv.ownBlock=tv.ownBlock:=rfl;refine⟨rfl,⟨tv,(.slice (some ⟨g,0,none⟩) (k+1) cap),bt,bp,svs,DT,DP.put (pk m.a m.b) (.agg []),?_⟩,HKP6.out⟩;exact {
   blk:=HBLK.out.same (HBB.out b HBLK.out.lt HNBP.out)
   trow:=Zab h.trow λg' hg=>by
    have hgl:=h.lt g' (h.fv g' hg);exact hold g' hgl (λe=>Zah h.trow h.blk (by decide) (by rw[hg,e])) (λe=>Za7 HR.out h.trow (by decide) g' e hg) (λe=>Za6 h.trow h.pmap (by rw[hg,e]))
   toks:=λi sv y h1 h2=>(h.toks i sv y h1 h2).mono HKP6.out (λ_ hf=>hf) hF
   mrow:=by
    show w6.ownsRow 0 88 3 _ (V.mer++[m]).length ((V.mer++[m]).flatMap Zav);rw[hlen,Ybg,Ybh];exact Zab HROW3.out λg' hg=>HBB.out g' (HROW3.out.lt g' hg).2 λe=>Za6 HROW3.out hpm4 (by rw[hg,e])
   fits:=λm' hm'=>by
    rcases Ybj.1 hm' with h1|h1
    ·exact h.fits m' h1
    ·rw[Ybi.1 h1];exact hm
   tmap:=Zap h.tmap (hold bt (h.lt bt h.ft) (h.blk.ne_map h.tmap).symm (Za6 HR.out h.tmap) h.nob)
   pmap:=by
    show Zip w6 bp (V.mer++[m]).length _;rw[hlen];exact HO6.out
   isT:=h.isT
   isP:=h.isP.put hm.1 hm.2.1 _
   nob:=h.nob
   fb:=.inl h.fb
   ft:=.inl h.ft
   fp:=.inl h.fp
   fv:=λg' hg=>.inl (h.fv g' hg)
   fm:=λg' hg=>by
    have hl:=HLOC.out;have hlt:=(HROW3.out.lt g' hg).2;have e:g=g':=by simpa[Value.ownBlock]using hg
    subst e;rcases hl with hl|hl
    ·exact .inl (HFV.out g hl)
    ·have h1:=HS6.out
     have h2:W1.heap.size=w.heap.size+1:=by rw[HW.out];simp
     have h3:(W1.alloc (.cells #[.int .i64 m.a,.int .i64 m.b,.int .i64 m.t] 88)).drew.heap.size=W1.heap.size+1:=by show(W1.heap.push _).size=_;simp
     have h4:g=W1.heap.size+1:=hl.trans h3;exact .inr ⟨by omega,by omega⟩
   lt:=λi hi=>by
    rcases hi with hi|hi
    ·have:=h.lt i hi
     have h1:=HS6.out;have h2:=HW4S.out;omega
    ·exact hi.2 }
 ·have h:=HH.out
  have hg2:=HG2.out;have hown:=HOWN.out;have hlt:=h.lt;have hW1s:W1.heap.size=w.heap.size+1:=by rw[HW.out];simp
  have hsz:w.heap.size+2<=w3.heap.size:=Ybu (by show _<=(W1.heap.push _).size;simp;omega) hg2.size;have hkp:Kept F w (w3.setCell ⟨b,1,none⟩ (.slice (some ⟨g,0,none⟩) (k+1) cap)):=(((((Kept.below HB1.out).drew.alloc _).grown hg2 (λg hg=>.inl (HFV.out g hg)))).setCell (.inl h.fb) _)
  have hcell:∀ i,i<w.heap.size+1->i≠b->(Value.slice At k ct).ownBlock≠some i->(w3.setCell ⟨b,1,none⟩ (.slice (some ⟨g,0,none⟩) (k+1) cap)).heap[i]?=W1.heap[i]?:=λi hi h1 h2=>by
   rw[Zad _ _ _ h1,hg2.block i (by show _<(W1.heap.push _).size;simp;omega) (λe=>h2 e.symm)];exact Ybn W1 _ _ (by omega)
  have hblk:Blk (w3.setCell ⟨b,1,none⟩ (.slice (some ⟨g,0,none⟩) (k+1) cap)) b 221 #[tv,(.slice (some ⟨g,0,none⟩) (k+1) cap),.map (some bt),.map (some bp)]:=by
   have:=HB3.out.set_ 1 (.slice (some ⟨g,0,none⟩) (k+1) cap)
   simpa using this
  have nbp:b≠bp:=h.blk.ne_map h.pmap;have ntp:(Value.slice At k ct).ownBlock≠some bp:=Za6 HR.out h.pmap;have hrow3:(w3.setCell ⟨b,1,none⟩ (.slice (some ⟨g,0,none⟩) (k+1) cap)).ownsRow 0 88 3 (.slice (some ⟨g,0,none⟩) (k+1) cap) (k+1) (V.mer.flatMap Zav++Zav m):=
   Zab hown λg hg=>Zad _ _ _ λe=>Zah hown HB3.out (by decide) (by rw[hg,e])
  have hsz3:(w3.setCell ⟨b,1,none⟩ (.slice (some ⟨g,0,none⟩) (k+1) cap)).heap.size=w3.heap.size:=Zai _ _ _;obtain⟨w4,hw4⟩:=Ze (w3.setCell ⟨b,1,none⟩ (.slice (some ⟨g,0,none⟩) (k+1) cap));rw[<- hw4]at hkp hcell hblk hrow3 hsz3 ⊢;have hblt:b<w.heap.size:=hlt b h.fb;have hnw:(Value.slice At k ct).ownBlock≠some w.heap.size:=λe=>by have:=hlt _ (HFV.out _ e);omega
  have hpm:Zip w4 bp k DP:=by rw[HK.out];exact Zap h.pmap ((hcell bp (by have:=hlt bp h.fp;omega) nbp.symm ntp).trans (HB1.out.block bp (hlt bp h.fp)))
  have hpb:Blk w4 w.heap.size 88 #[.int .i64 m.a,.int .i64 m.b,.int .i64 m.t]:=HPB.out.same (hcell _ (by omega) (by omega) hnw);have q0:=hblk.cell 3;have q1:=hpb.cell 0;have q2:=hpb.cell 1;have q3:=hpb.cell 2;simp only[lz0,lz1,lz2]at q0 q1 q2 q3;have HW4:=Zh hw4;have HKP:=Zh hkp;have HCELL:=Zh hcell;have HBLK:=Zh hblk;have HROW3:=Zh hrow3;have HPM:=Zh hpm;have HNBP:=Zh nbp;have HNTP:=Zh ntp;have HLT:=Zh hlt;have HSZ:=Zh hsz;have HSZ3:=Zh hsz3;have HBLT:=Zh hblt;clear h hg2 hown hlt hsz hkp hcell hblk nbp ntp hrow3 hw4 hpm z1 e1 hsz3 hpb hW1s hnw hblt g1' g1'' m0 m1 m2 hone;go_wp2_with fail;refine Yb8 (S:=λw'=>w'.cell? ⟨b,3,none⟩=some (.map (some bp))/\w'.cell? ⟨w.heap.size,0,none⟩=some (.int .i64 m.a)/\w'.cell? ⟨w.heap.size,1,none⟩=some (.int .i64 m.b)/\w'.cell? ⟨w.heap.size,2,none⟩=some (.int .i64 m.t)) (by kernel_rfl) ?_ (λhHeld=>?_)
  ·exact⟨q0,q1,q2,q3⟩
  refine tk 0 ?_;try simp only[Act.put,lz3,lz4,lz5]
  refine tk 1 ?_;try simp only[Act.put,lz3,lz4,lz5]
  refine tk 2 ?_;try simp only[Act.put,lz3,lz4,lz5]
  refine tk 3 ?_;try simp only[Act.put,lz3,lz4,lz5]
  refine tk 4 ?_;try simp only[Act.put,lz3,lz4,lz5]
  refine tk 6 ?_;try simp only[Act.put,lz3,lz4,lz5]
  refine rd1 5 ?_;intro K hK;go_simp;refine(Zgt _ m.a m.b m.t).mono ?_;rintro e w5 ⟨rfl,hb5'⟩;have hb5:Below w4.heap.size w4 w5:=Zaa (Ybm _ w4).drew hb5' (Yar _);have hS5:(λw'=>w'.cell? ⟨b,3,none⟩=some (.map (some bp))/\w'.cell? ⟨w.heap.size,0,none⟩=some (.int .i64 m.a)/\w'.cell? ⟨w.heap.size,1,none⟩=some (.int .i64 m.b)/\w'.cell? ⟨w.heap.size,2,none⟩=some (.int .i64 m.t)) w5:=⟨Zag hb5 q0,Zag hb5 q1,Zag hb5 q2,Zag hb5 q3⟩
  have HB5:=Zh hb5;clear hb5 hb5';go_wp2_with fail;refine hK.out _ _ hS5 (λ_=>?_);clear hK K;try simp only[Act.put,lz3,lz4,lz5]
  refine rd1 7 ?_;intro K hK;refine Zdh _ rfl _ _ _ 219 rfl 73 150 Ziy Tryz.underlying219 unitElem bp k DP rfl (Zap HPM.out (HB5.out.block bp HPM.out.lt)) (by unfold maxLen;omega) _ _ (pk m.a m.b) rfl rfl (Zcn hm.1 hm.2.1) (.agg []) [] unitElem_mk ?_;intro w6 hown6 hg6;have hbb:∀ i,i<w4.heap.size->i≠bp->w6.heap[i]?=w4.heap[i]?:=λi h1 h2=>(hg6.block i (by have:=HB5.out.size;omega) (λe=>h2 (Ya9 e))).trans (HB5.out.block i h1);have hs6:w4.heap.size<=w6.heap.size:=Ybu HB5.out.size hg6.size;have hwp:w.heap.size≠bp:=λe=>by have:=HLT.out bp HH.out.fp;omega
  have hw4s:w.heap.size<w4.heap.size:=by have:=HSZ.out;have:=HSZ3.out;omega
  have hS6:(λw'=>w'.cell? ⟨b,3,none⟩=some (.map (some bp))/\w'.cell? ⟨w.heap.size,0,none⟩=some (.int .i64 m.a)/\w'.cell? ⟨w.heap.size,1,none⟩=some (.int .i64 m.b)/\w'.cell? ⟨w.heap.size,2,none⟩=some (.int .i64 m.t)) w6:=⟨(Yb4 (a:=⟨b,3,none⟩) (hbb b HBLK.out.lt HNBP.out)).trans q0,(Yb4 (a:=⟨w.heap.size,0,none⟩) (hbb _ hw4s hwp)).trans q1,(Yb4 (a:=⟨w.heap.size,1,none⟩) (hbb _ hw4s hwp)).trans q2,(Yb4 (a:=⟨w.heap.size,2,none⟩) (hbb _ hw4s hwp)).trans q3⟩
  have HO6:=Zh hown6;have hkp6:Kept F w w6:=(HKP.out.trans (F':=λ_=>False) (Kept.below HB5.out) (λ_ _ h=>h.elim)).grown hg6 (λg hg=>by cases hg;exact .inl HH.out.fp);have HKP6:=Zh hkp6;have HBB:=Zh hbb;have HS6:=Zh hs6;have HW4S:=Zh hw4s;clear hown6 hg6 hbb hs6 hkp6 hwp hw4s;refine hK.out _ _ hS6 (λ_=>?_);clear hK K;refine Yb9 (by kernel_rfl) ?_ _;go_wp2;go_end0;have h:=HH.out;have hF:∀ i,Own F w w6 i->F i\/w.heap.size<=i:=λi hi=>hi.imp id (·.1);have hpm4:w4.ownsMap Tryz.prog 73 unitElem bp k DP:=HPM.out;have hlen:(V.mer++[m]).length=k+1:=by rw[HK.out];simp
  have hold:∀ i,i<w.heap.size->i≠b->(Value.slice At k ct).ownBlock≠some i->i≠bp->w6.heap[i]?=w.heap[i]?:=λi h0 h1 h2 h3=>((HBB.out i (by have:=HW4S.out;omega) h3).trans (HCELL.out i (by omega) h1 h2)).trans (HB1.out.block i h0);have hrow:tv.ownBlock=tv.ownBlock:=rfl;refine⟨rfl,⟨tv,(.slice (some ⟨g,0,none⟩) (k+1) cap),bt,bp,svs,DT,DP.put (pk m.a m.b) (.agg []),?_⟩,HKP6.out⟩;exact {
   blk:=HBLK.out.same (HBB.out b HBLK.out.lt HNBP.out)
   trow:=Zab h.trow λg' hg=>by
    have hgl:=h.lt g' (h.fv g' hg);exact hold g' hgl (λe=>Zah h.trow h.blk (by decide) (by rw[hg,e])) (λe=>Za7 HR.out h.trow (by decide) g' e hg) (λe=>Za6 h.trow h.pmap (by rw[hg,e]))
   toks:=λi sv y h1 h2=>(h.toks i sv y h1 h2).mono HKP6.out (λ_ hf=>hf) hF
   mrow:=by
    show w6.ownsRow 0 88 3 _ (V.mer++[m]).length ((V.mer++[m]).flatMap Zav);rw[hlen,Ybg,Ybh];exact Zab HROW3.out λg' hg=>HBB.out g' (HROW3.out.lt g' hg).2 λe=>Za6 HROW3.out hpm4 (by rw[hg,e])
   fits:=λm' hm'=>by
    rcases Ybj.1 hm' with h1|h1
    ·exact h.fits m' h1
    ·rw[Ybi.1 h1];exact hm
   tmap:=Zap h.tmap (hold bt (h.lt bt h.ft) (h.blk.ne_map h.tmap).symm (Za6 HR.out h.tmap) h.nob)
   pmap:=by
    show Zip w6 bp (V.mer++[m]).length _;rw[hlen];exact HO6.out
   isT:=h.isT
   isP:=h.isP.put hm.1 hm.2.1 _
   nob:=h.nob
   fb:=.inl h.fb
   ft:=.inl h.ft
   fp:=.inl h.fp
   fv:=λg' hg=>.inl (h.fv g' hg)
   fm:=λg' hg=>by
    have hl:=HLOC.out;have hlt:=(HROW3.out.lt g' hg).2;have e:g=g':=by simpa[Value.ownBlock]using hg
    subst e;rcases hl with hl|hl
    ·exact .inl (HFV.out g hl)
    ·have h1:=HS6.out
     have h2:W1.heap.size=w.heap.size+1:=by rw[HW.out];simp
     have h3:(W1.alloc (.cells #[.int .i64 m.a,.int .i64 m.b,.int .i64 m.t] 88)).drew.heap.size=W1.heap.size+1:=by show(W1.heap.push _).size=_;simp
     have h4:g=W1.heap.size+1:=hl.trans h3;exact .inr ⟨by omega,by omega⟩
   lt:=λi hi=>by
    rcases hi with hi|hi
    ·have:=h.lt i hi
     have h1:=HS6.out;have h2:=HW4S.out;omega
    ·exact hi.2 }
 ·have h:=HH.out
  have hg2:=HG2.out;have hown:=HOWN.out;have hlt:=h.lt;have hW1s:W1.heap.size=w.heap.size+1:=by rw[HW.out];simp
  have hsz:w.heap.size+2<=w3.heap.size:=Ybu (by show _<=(W1.heap.push _).size;simp;omega) hg2.size;have hkp:Kept F w (w3.setCell ⟨b,1,none⟩ (.slice (some ⟨g,0,none⟩) (k+1) cap)):=(((((Kept.below HB1.out).drew.alloc _).grown hg2 (λg hg=>.inl (HFV.out g hg)))).setCell (.inl h.fb) _)
  have hcell:∀ i,i<w.heap.size+1->i≠b->(Value.slice At k ct).ownBlock≠some i->(w3.setCell ⟨b,1,none⟩ (.slice (some ⟨g,0,none⟩) (k+1) cap)).heap[i]?=W1.heap[i]?:=λi hi h1 h2=>by
   rw[Zad _ _ _ h1,hg2.block i (by show _<(W1.heap.push _).size;simp;omega) (λe=>h2 e.symm)];exact Ybn W1 _ _ (by omega)
  have hblk:Blk (w3.setCell ⟨b,1,none⟩ (.slice (some ⟨g,0,none⟩) (k+1) cap)) b 221 #[tv,(.slice (some ⟨g,0,none⟩) (k+1) cap),.map (some bt),.map (some bp)]:=by
   have:=HB3.out.set_ 1 (.slice (some ⟨g,0,none⟩) (k+1) cap)
   simpa using this
  have nbp:b≠bp:=h.blk.ne_map h.pmap;have ntp:(Value.slice At k ct).ownBlock≠some bp:=Za6 HR.out h.pmap;have hrow3:(w3.setCell ⟨b,1,none⟩ (.slice (some ⟨g,0,none⟩) (k+1) cap)).ownsRow 0 88 3 (.slice (some ⟨g,0,none⟩) (k+1) cap) (k+1) (V.mer.flatMap Zav++Zav m):=
   Zab hown λg hg=>Zad _ _ _ λe=>Zah hown HB3.out (by decide) (by rw[hg,e])
  have hsz3:(w3.setCell ⟨b,1,none⟩ (.slice (some ⟨g,0,none⟩) (k+1) cap)).heap.size=w3.heap.size:=Zai _ _ _;obtain⟨w4,hw4⟩:=Ze (w3.setCell ⟨b,1,none⟩ (.slice (some ⟨g,0,none⟩) (k+1) cap));rw[<- hw4]at hkp hcell hblk hrow3 hsz3 ⊢;have hblt:b<w.heap.size:=hlt b h.fb;have hnw:(Value.slice At k ct).ownBlock≠some w.heap.size:=λe=>by have:=hlt _ (HFV.out _ e);omega
  have hpm:Zip w4 bp k DP:=by rw[HK.out];exact Zap h.pmap ((hcell bp (by have:=hlt bp h.fp;omega) nbp.symm ntp).trans (HB1.out.block bp (hlt bp h.fp)))
  have hpb:Blk w4 w.heap.size 88 #[.int .i64 m.a,.int .i64 m.b,.int .i64 m.t]:=HPB.out.same (hcell _ (by omega) (by omega) hnw);have q0:=hblk.cell 3;have q1:=hpb.cell 0;have q2:=hpb.cell 1;have q3:=hpb.cell 2;simp only[lz0,lz1,lz2]at q0 q1 q2 q3;have HW4:=Zh hw4;have HKP:=Zh hkp;have HCELL:=Zh hcell;have HBLK:=Zh hblk;have HROW3:=Zh hrow3;have HPM:=Zh hpm;have HNBP:=Zh nbp;have HNTP:=Zh ntp;have HLT:=Zh hlt;have HSZ:=Zh hsz;have HSZ3:=Zh hsz3;have HBLT:=Zh hblt;clear h hg2 hown hlt hsz hkp hcell hblk nbp ntp hrow3 hw4 hpm z1 e1 hsz3 hpb hW1s hnw hblt g1' g1'' m0 m1 m2 hone;go_wp2_with fail;refine Yb8 (S:=λw'=>w'.cell? ⟨b,3,none⟩=some (.map (some bp))/\w'.cell? ⟨w.heap.size,0,none⟩=some (.int .i64 m.a)/\w'.cell? ⟨w.heap.size,1,none⟩=some (.int .i64 m.b)/\w'.cell? ⟨w.heap.size,2,none⟩=some (.int .i64 m.t)) (by kernel_rfl) ?_ (λhHeld=>?_)
  ·exact⟨q0,q1,q2,q3⟩
  refine tk 0 ?_;try simp only[Act.put,lz3,lz4,lz5]
  refine tk 1 ?_;try simp only[Act.put,lz3,lz4,lz5]
  refine tk 2 ?_;try simp only[Act.put,lz3,lz4,lz5]
  refine tk 3 ?_;try simp only[Act.put,lz3,lz4,lz5]
  refine tk 4 ?_;try simp only[Act.put,lz3,lz4,lz5]
  refine tk 6 ?_;try simp only[Act.put,lz3,lz4,lz5]
  refine rd1 5 ?_;intro K hK;go_simp;refine(Zgt _ m.a m.b m.t).mono ?_;rintro e w5 ⟨rfl,hb5'⟩;have hb5:Below w4.heap.size w4 w5:=Zaa (Ybm _ w4).drew hb5' (Yar _);have hS5:(λw'=>w'.cell? ⟨b,3,none⟩=some (.map (some bp))/\w'.cell? ⟨w.heap.size,0,none⟩=some (.int .i64 m.a)/\w'.cell? ⟨w.heap.size,1,none⟩=some (.int .i64 m.b)/\w'.cell? ⟨w.heap.size,2,none⟩=some (.int .i64 m.t)) w5:=⟨Zag hb5 q0,Zag hb5 q1,Zag hb5 q2,Zag hb5 q3⟩
  have HB5:=Zh hb5;clear hb5 hb5';go_wp2_with fail;refine hK.out _ _ hS5 (λ_=>?_);clear hK K;try simp only[Act.put,lz3,lz4,lz5]
  refine rd1 7 ?_;intro K hK;refine Zdh _ rfl _ _ _ 219 rfl 73 150 Ziy Tryz.underlying219 unitElem bp k DP rfl (Zap HPM.out (HB5.out.block bp HPM.out.lt)) (by unfold maxLen;omega) _ _ (pk m.a m.b) rfl rfl (Zcn hm.1 hm.2.1) (.agg []) [] unitElem_mk ?_;intro w6 hown6 hg6;have hbb:∀ i,i<w4.heap.size->i≠bp->w6.heap[i]?=w4.heap[i]?:=λi h1 h2=>(hg6.block i (by have:=HB5.out.size;omega) (λe=>h2 (Ya9 e))).trans (HB5.out.block i h1);have hs6:w4.heap.size<=w6.heap.size:=Ybu HB5.out.size hg6.size;have hwp:w.heap.size≠bp:=λe=>by have:=HLT.out bp HH.out.fp;omega
  have hw4s:w.heap.size<w4.heap.size:=by have:=HSZ.out;have:=HSZ3.out;omega
  have hS6:(λw'=>w'.cell? ⟨b,3,none⟩=some (.map (some bp))/\w'.cell? ⟨w.heap.size,0,none⟩=some (.int .i64 m.a)/\w'.cell? ⟨w.heap.size,1,none⟩=some (.int .i64 m.b)/\w'.cell? ⟨w.heap.size,2,none⟩=some (.int .i64 m.t)) w6:=⟨(Yb4 (a:=⟨b,3,none⟩) (hbb b HBLK.out.lt HNBP.out)).trans q0,(Yb4 (a:=⟨w.heap.size,0,none⟩) (hbb _ hw4s hwp)).trans q1,(Yb4 (a:=⟨w.heap.size,1,none⟩) (hbb _ hw4s hwp)).trans q2,(Yb4 (a:=⟨w.heap.size,2,none⟩) (hbb _ hw4s hwp)).trans q3⟩
  have HO6:=Zh hown6;have hkp6:Kept F w w6:=(HKP.out.trans (F':=λ_=>False) (Kept.below HB5.out) (λ_ _ h=>h.elim)).grown hg6 (λg hg=>by cases hg;exact .inl HH.out.fp);have HKP6:=Zh hkp6;have HBB:=Zh hbb;have HS6:=Zh hs6;have HW4S:=Zh hw4s;clear hown6 hg6 hbb hs6 hkp6 hwp hw4s;refine hK.out _ _ hS6 (λ_=>?_);clear hK K;refine Yb9 (by kernel_rfl) ?_ _;go_wp2;go_end0;have h:=HH.out;have hF:∀ i,Own F w w6 i->F i\/w.heap.size<=i:=λi hi=>hi.imp id (·.1);have hpm4:w4.ownsMap Tryz.prog 73 unitElem bp k DP:=HPM.out;have hlen:(V.mer++[m]).length=k+1:=by rw[HK.out];simp
  have hold:∀ i,i<w.heap.size->i≠b->(Value.slice At k ct).ownBlock≠some i->i≠bp->w6.heap[i]?=w.heap[i]?:=λi h0 h1 h2 h3=>((HBB.out i (by have:=HW4S.out;omega) h3).trans (HCELL.out i (by omega) h1 h2)).trans (HB1.out.block i h0);have hrow:tv.ownBlock=tv.ownBlock:=rfl;refine⟨rfl,⟨tv,(.slice (some ⟨g,0,none⟩) (k+1) cap),bt,bp,svs,DT,DP.put (pk m.a m.b) (.agg []),?_⟩,HKP6.out⟩;exact {
   blk:=HBLK.out.same (HBB.out b HBLK.out.lt HNBP.out)
   trow:=Zab h.trow λg' hg=>by
    have hgl:=h.lt g' (h.fv g' hg);exact hold g' hgl (λe=>Zah h.trow h.blk (by decide) (by rw[hg,e])) (λe=>Za7 HR.out h.trow (by decide) g' e hg) (λe=>Za6 h.trow h.pmap (by rw[hg,e]))
   toks:=λi sv y h1 h2=>(h.toks i sv y h1 h2).mono HKP6.out (λ_ hf=>hf) hF
   mrow:=by
    show w6.ownsRow 0 88 3 _ (V.mer++[m]).length ((V.mer++[m]).flatMap Zav);rw[hlen,Ybg,Ybh];exact Zab HROW3.out λg' hg=>HBB.out g' (HROW3.out.lt g' hg).2 λe=>Za6 HROW3.out hpm4 (by rw[hg,e])
   fits:=λm' hm'=>by
    rcases Ybj.1 hm' with h1|h1
    ·exact h.fits m' h1
    ·rw[Ybi.1 h1];exact hm
   tmap:=Zap h.tmap (hold bt (h.lt bt h.ft) (h.blk.ne_map h.tmap).symm (Za6 HR.out h.tmap) h.nob)
   pmap:=by
    show Zip w6 bp (V.mer++[m]).length _;rw[hlen];exact HO6.out
   isT:=h.isT
   isP:=h.isP.put hm.1 hm.2.1 _
   nob:=h.nob
   fb:=.inl h.fb
   ft:=.inl h.ft
   fp:=.inl h.fp
   fv:=λg' hg=>.inl (h.fv g' hg)
   fm:=λg' hg=>by
    have hl:=HLOC.out;have hlt:=(HROW3.out.lt g' hg).2;have e:g=g':=by simpa[Value.ownBlock]using hg
    subst e;rcases hl with hl|hl
    ·exact .inl (HFV.out g hl)
    ·have h1:=HS6.out
     have h2:W1.heap.size=w.heap.size+1:=by rw[HW.out];simp
     have h3:(W1.alloc (.cells #[.int .i64 m.a,.int .i64 m.b,.int .i64 m.t] 88)).drew.heap.size=W1.heap.size+1:=by show(W1.heap.push _).size=_;simp
     have h4:g=W1.heap.size+1:=hl.trans h3;exact .inr ⟨by omega,by omega⟩
   lt:=λi hi=>by
    rcases hi with hi|hi
    ·have:=h.lt i hi
     have h1:=HS6.out;have h2:=HW4S.out;omega
    ·exact hi.2 }
theorem PostB.atV {w:World} {base:Nat} {vs:Value} {P:List Pst} {x:Pst} {pl:Addr} {N c:Nat} (h:PostB w base (.slice (some pl) N c) vs P x):N=P.length+1/\w.cell? (pl.add (P.length*2))=some (.int .i64 x.1)/\w.cell? ⟨(pl.add (P.length*2)).block,(pl.add (P.length*2)).off+1,none⟩=some vs:=by
 obtain⟨pa,c',e,h1,h2,h3⟩:=h.at;simp only[Value.slice.injEq,Option.some.injEq]at e;obtain⟨rfl,rfl,rfl⟩:=e;exact⟨rfl,h1,h2⟩
theorem Zrm {w:World} {F:Nat->Prop} {b:Nat} {L:List MDoc} (h:M0 w F b L) (hW:MWF L) (hT:totT L<=20000) (t:Int) (ht:Zaj t):Calls Tryz.prog 37 #[.pointer (some ⟨b,0,none⟩),.int .i64 t] w (Zwc w (Zax L t)):=by
 obtain⟨i1,hi1,hy0,hy1,hy2⟩:=info_parts Zgs;obtain⟨i2,hi2,hx0,hx1,hx2⟩:=info_parts Zeq;obtain⟨hFb,hFlt,mb,hB,hP⟩:=h;obtain⟨v,hrun,hov,-,-⟩:=hP.step (by unfold maxLen;omega) ht;obtain⟨A0,c0',rfl⟩:=Zac hov;have c0:=hB.cell 0;simp only[lz0,lz1]at c0;have hlen:=Ztf L t;have HFIT:=Zh (λp hp=>Qa3 hW (t:=t) (p:=p) hp);have HPO:=Zh (Zxj hW t);obtain⟨ps,hps⟩:=Ze (plOf L t);rw[<- hps]at hov hlen HFIT HPO hrun;have HOV:=Zh hov;obtain⟨n,hn⟩:=Ze ps.length;have hn2:n<=20000:=by omega
 rw[<- hn]at hrun HOV;have HN:=Zh hn;have HSM:=Zh (λk (hk:k<=n)=>Zp6 ps k (by rw[<- HN.out];exact hk));clear hFb hFlt hP hB hov hps hn hlen hW;go_enter Tryz.func37,Tryz.ntmps37;go_wp2;clear hrun c0;go_loopw [5,16] (λv iv wr=>∃ i:Nat,i<=n/\iv=.int .i64 i/\Below w.heap.size w wr/\((i=0/\v=.slice none 0 0)\/∃ P x vs,Zfd (ps.take i)=P++[x]/\PostB wr w.heap.size v vs P x)) (λ_ iv _=>n-(Go.RowKit.intOf iv).toNat);case atStart=>exact⟨0,by omega,rfl,Ybm _ _,.inl ⟨rfl,rfl⟩⟩
 case round=>
  obtain⟨i,hi,rfl,hb,hst⟩:=hrel;have HBW:=Zh hb;have HST:=Zh hst;have HSMI:=Zh (HSM.out i hi);clear hb hst;rcases Yab i n with hlt|hge
  ·have d1:decide ((i:Int)<(n:Int))=true:=by simpa using hlt
   have p0:(0:Int)<=(i:Int):=by omega
   have p1:(i:Int)<(n:Int):=by omega
   have hw5:IntKind.i64.wrap ((i:Int)+1)=(i:Int)+1:=Ybo _ (by omega);obtain⟨pa,p,rfl,hp,a0,a1,a2⟩:=HOV.out.at i (by rw[<- HN.out];exact hlt);have HPF:=Zh (HFIT.out p (Ybz hp));have HNX:=Zh (Zmd hp);obtain⟨pd,pp,pz⟩:=p;simp only at a0 a1 a2 HPF;have b0:=Zag HBW.out a0;have b1:=Zag HBW.out a1;have b2:=Zag HBW.out a2;clear a0 a1 a2 hp;have HO:Hid (PostsO wr w.heap.size u5 (Zfd (ps.take i))):=Zh (by
    rcases HST.out with⟨rfl,rfl⟩|⟨P,x,vs,hg,hPB⟩
    ·exact PostsO.nil _ _
    ·rw[hg]
     exact hPB.posts (by have:=HSMI.out.2 x (by rw[hg];simp);unfold maxLen;omega))
   have hv5:∃ N Av cv,u5=.slice Av N cv/\N=(Zfd (ps.take i)).length:=by
    obtain⟨R,_,h1,_⟩:=HO.out;obtain⟨A,c,rfl⟩:=Zac h1;exact⟨_,A,c,rfl,rfl⟩
   obtain⟨N,Av,cv,rfl,hNl⟩:=hv5;have hN2:N<=20000:=by have:=HSMI.out.1;omega
   have HNL:=Zh hNl;obtain⟨tb,htb⟩:∃ tb:Bool,(tb=true/\(i=0\/∃ P x,Zfd (ps.take i)=P++[x]/\x.1≠pd))\/(tb=false/\∃ P x,Zfd (ps.take i)=P++[x]/\x.1=pd):=by
    rcases HST.out with⟨h0,_⟩|⟨P,x,vs,hg,_⟩
    ·exact⟨true,.inl ⟨rfl,.inl h0⟩⟩
    ·by_cases h:x.1=pd
     ·exact⟨false,.inr ⟨rfl,P,x,hg,h⟩⟩
     ·exact⟨true,.inl ⟨rfl,.inr ⟨P,x,hg,h⟩⟩⟩
   have HTB:=Zh htb;obtain⟨wo,hwo⟩:=Ze wr;subst hwo;obtain⟨pb,hpb⟩:=Ze wo.heap.size;obtain⟨W1,hW1⟩:=Ze (wo.alloc (.cells #[.int .i64 pd,.int .i64 pp,.int .i64 pz] 165));have hb0:Below wo.heap.size wo W1:=by rw[hW1];exact(Ybm _ wo).alloc (Yar _) _
   have HB0:=Zh hb0;have hbl1:Blk W1 pb 165 #[.int .i64 pd,.int .i64 pp,.int .i64 pz]:=by rw[hW1,hpb];exact Blk.new _ _ _
   have HBL:=Zh hbl1;have HBW1:=Zh (Zaa HBW.out hb0 HBW.out.size);have HPBS:Hid (w.heap.size<=pb):=Zh (by rw[hpb];exact HBW.out.size);have HPB:=Zh hpb;have HW1:=Zh hW1;clear hNl htb hb0 hbl1 hpb hW1;go_upto_region 5 with fail;rw[<- HW1.out,<- HPB.out];clear b0 b1 b2;go_cut [34] (λv wx=>v=.bool tb/\∃ q,wx=W1.drewN q);case first=>
    rcases HST.out with⟨h0,hv⟩|⟨P,x,vs,hg,hPB⟩
    ·simp only[Value.slice.injEq]at hv
     obtain⟨rfl,rfl,rfl⟩:=hv;have htt:tb=true:=by
      rcases HTB.out with⟨h,_⟩|⟨_,P,x,hg,_⟩
      ·exact h
      ·rw[h0]at hg;simp[Zfd]at hg
     subst htt;have H0:=Zh h0;clear h0;have d0:(((0:Nat):Int)==0)=true:=rfl;have d0':((0:Int)==0)=true:=rfl;go_quiet (fail);go_wp2_with fail;go_meet;case rel=>exact⟨rfl,_,rfl⟩
    ·obtain⟨m,hm⟩:=Ze P.length
     have hNm:N=m+1:=by rw[HNL.out,hg,hm];simp
     obtain⟨pl,cl,hv,e0,-,-⟩:=(hPB.below HB0.out).at;simp only[Value.slice.injEq]at hv;obtain⟨rfl,-,rfl⟩:=hv;rw[<- hm]at e0;have htt:(x.1 != pd)=tb:=by
      rcases HTB.out with⟨h,h2|⟨P',x',hg',h2⟩⟩|⟨h,P',x',hg',h2⟩
      ·rw[h2]at hg;simp[Zfd]at hg
      ·rw[hg]at hg'
       obtain⟨rfl,hx⟩:=List.append_inj' hg' rfl;simp only[List.cons.injEq,and_true]at hx;rw[h,hx];simpa using h2
      ·rw[hg]at hg'
       obtain⟨rfl,hx⟩:=List.append_inj' hg' rfl;simp only[List.cons.injEq,and_true]at hx;rw[h,hx];simpa using h2
     obtain⟨x1,hx1⟩:=Ze x.1;rw[<- hx1]at e0 htt;have d0:((N:Int)==0)=false:=by simp;omega
     have hsub:IntKind.i64.wrap ((N:Int)-1)=(m:Int):=by rw[Ybo _ (by omega)];omega
     have q0:(0:Int)<=(m:Int):=by omega
     have q1:(m:Int)<(N:Int):=by omega
     have e0w:∀ k,(W1.drewN k).cell? (pl.add (m*2))=some (.int .i64 x1):=λk=>e0;have pbw:∀ k,(W1.drewN k).cell? ⟨pb,0,none⟩=some (.int .i64 pd):=λk=>HBL.out.cell 0;clear hm hNm hx1 e0 hPB hg;go_quiet (fail);go_wp2_with fail;go_meet;case rel=>exact⟨rfl,_,rfl⟩
   case rest=>
    obtain⟨rfl,qx,hwx⟩:=hcut;obtain⟨W2,hW2⟩:=Ze wc;have hbq:Below wo.heap.size wo W2:=by rw[hW2,hwx];exact Zaf HB0.out _
    have HBQ:=Zh hbq;have HBL2:=Zh (show Blk W2 pb 165 #[.int .i64 pd,.int .i64 pp,.int .i64 pz]from by rw[hW2,hwx];exact HBL.out.drewN _);have HBW2:=Zh (Zaa HBW.out hbq HBW.out.size);rw[<- hW2];clear hwx hW2 hbq;go_upto_if 34 with fail;go_cut [5] (λv wx=>∃ (P:List Pst) (x:Pst) (vs:Value),PostB wx w.heap.size v vs P x/\x.1=pd/\Zfd (ps.take (i+1))=P++[(x.1,x.2++[(pp,pz)])]/\P.length<=20000/\x.2.length<=20000/\Below w.heap.size w wx/\Blk wx pb 165 #[.int .i64 pd,.int .i64 pp,.int .i64 pz]);case first=>
     cases tb with
     | true=>
      have c0:=HBL2.out.cell 0;simp only[lz0,lz1]at c0;obtain⟨R,hR0,hR1,hR2⟩:=HO.out;rw[<- HNL.out]at hR1;have HR0:=Zh hR0;have HR2:=Zh hR2;have hR3:W2.ownsRow w.heap.size 62 2 (.slice Av N cv) N (R.flatMap Zan):=Zab hR1 λg hg=>HBQ.out.block g (hR1.lt g hg).2;have HR3:=Zh hR3;have hsz:=HBQ.out.size;clear hR0 hR1 hR2 hR3;go_wp2_with (at_builtin;refine wpList_append_own_at _ rfl (.tmp 35) (.tmp 39) 56 rfl w.heap.size 62 i2 _ 2 32 Tryz.underlying56 hi2 hx0 hx1 hx2 rfl (by decide) _ N _ rfl (Yb6 HR3.out _) ⟨W2.heap.size,0,none⟩ 1 1 (Zan (pd,.slice none 0 0)) rfl rfl (Zda (p:=(pd,.slice none 0 0)) (Blk.new W2 62 #[.int .i64 pd,.slice none 0 0])) (Zfl _ _ _ _) (by unfold maxLen;omega) (by omega) (by simp;have:=HBW2.out.size;omega) ?_;intro v3 w3 hown hgrow _ hloc;have HOWN:=Zh hown;have HGRW:=Zh hgrow;have HLOC:=Zh hloc;clear hown hgrow hloc);go_meet;case rel=>
       have hal:Below W2.heap.size W2 (W2.alloc (.cells #[.int .i64 pd,.slice none 0 0] 62)):=(Ybm _ W2).alloc (Yar _) _;have hR2':=λi p y e1 e2=>(HR2.out i p y e1 e2).mono (w':=W2.alloc (.cells #[.int .i64 pd,.slice none 0 0] 62)) (g:=λi=>w.heap.size<=i/\Value.ownBlock (.slice Av N cv)≠some i) (λj hj hf=>⟨(hal.block j (Ya7 hj hsz)).trans (HBQ.out.block j hj),hf⟩) (Ybu hsz hal.size);have hown:=HOWN.out;rw[HNL.out]at hown;have hf:=HPF.out;have hnew:=PostB.of_push (d:=pd) (by unfold Zaj;omega) HR0.out hR2' hown HGRW.out HLOC.out;refine⟨_,_,_,hnew,rfl,?_,by rw[<- HNL.out];exact hN2,by simp,?_,?_⟩
       ·rw[HNX.out]
        rcases HTB.out with⟨_,h0|⟨P,x,hg,hne⟩⟩|⟨h,_⟩
        ·subst h0
         rfl
        ·rw[hg,Zgw hne]
         rfl
        ·cases h
       ·exact(Zaa HBW2.out hal HBW2.out.size).grown HGRW.out (by have:=HBW2.out.size;simp;omega) (λg hg=>(HR3.out.lt g hg).1)
       ·refine((HBL2.out.below hal HBL2.out.lt).grown HGRW.out λe=>?_)
        exact Zah HR3.out HBL2.out (by decide) e.symm
     | false=>
      go_wp2_with fail;go_meet;case rel=>
       rcases HTB.out with⟨h,_⟩|⟨_,P,x,hg,hx⟩
       ·cases h
       ·rcases HST.out with⟨h0,_⟩|⟨P',x',vs,hg',hPB⟩
        ·rw[h0]at hg;simp[Zfd]at hg
        ·rw[hg]at hg'
         obtain⟨rfl,hxx⟩:=List.append_inj' hg' rfl;simp only[List.cons.injEq,and_true]at hxx;subst hxx;refine⟨P,x,vs,hPB.below HBQ.out,hx,?_,?_,?_,HBW2.out,HBL2.out⟩
         ·rw[HNX.out,hg,Zh7 hx]
         ·have:=HSMI.out.1
          rw[hg,Yaq]at this;omega
         ·have:=HSMI.out.2 x (by rw[hg];simp)
          omega
    case rest=>
     obtain⟨P,x,vs,hPB,hxd,hgn,hPl,hxl,hBc,hblc⟩:=hcut;obtain⟨Avs,cvs,hvs⟩:=Zac hPB.spots;subst hvs;obtain⟨pl,cl,hv,hcc0,-,-⟩:=hPB.at;subst hv;obtain⟨wd,hwc⟩:=Ze wc;have HPN:Hid (pb≠(pl.add (P.length*2)).block):=Zh (λe=>by
      obtain⟨R,hR1,hR2,hR3⟩:=hPB.row;refine Zah hR2 hblc (by decide) ?_;rw[e];have:(pl.add (P.length*2)).block=pl.block:=by unfold Addr.add;split<;>rfl
      rw[this];rfl)
     have HPV:Hid (∀ g,Value.ownBlock (.slice Avs x.2.length cvs)=some g->w.heap.size<=g/\g≠pb):=Zh (λg hg=>⟨(hPB.spots.lt g hg).1,λe=>Zah hPB.spots hblc (by decide) (by rw[hg,e])⟩);have HGN:=Zh hgn;have HXD:=Zh hxd;rw[<- hwc]at hPB hBc hblc ⊢;have HP1:=Zh hPB;have HW1':=Zh hBc;have HN1:=Zh hblc;obtain⟨m,hm⟩:=Ze P.length;obtain⟨N2,hN2⟩:=Ze (P.length+1);have HM:=Zh hm;have HN2:=Zh hN2;have hsub:IntKind.i64.wrap ((N2:Int)-1)=(m:Int):=by rw[Ybo _ (by omega)];omega
     have q0:(0:Int)<=(m:Int):=by omega
     have q1:(m:Int)<(N2:Int):=by omega
     rw[<- hm]at HPN hPl;rw[<- hN2]at HP1 ⊢;obtain⟨sl,hsl⟩:=Ze x.2.length;have HSL:=Zh hsl;rw[<- hsl]at HP1 hxl HPV;clear hPB hBc hblc hgn hxd hwc hm hN2 hcc0 hsl;go_upto_region 8 with fail;refine Yb8 (S:=λw'=>w'.cell? ⟨pb,1,none⟩=some (.int .i64 pp)/\w'.cell? ⟨pb,2,none⟩=some (.int .i64 pz)) (by kernel_rfl) ⟨HN1.out.cell 1,HN1.out.cell 2⟩ (λhHeld=>?_);obtain⟨u0,hu0⟩:=Ze wd.drew;rw[<- hu0]at hHeld ⊢;have HP2:=Zh (show PostB u0 w.heap.size (.slice (some pl) N2 cl) (.slice Avs sl cvs) P x from by rw[hu0];exact HP1.out.below (Zaf (Ybm _ wd) 1));have HW2':=Zh (show Below w.heap.size w u0 from by rw[hu0];exact HW1'.out.drew);have HN2':=Zh (show Blk u0 pb _ _ from by rw[hu0];exact HN1.out.drew);have hS0:(λw':World=>w'.cell? ⟨pb,1,none⟩=some (.int .i64 pp)/\w'.cell? ⟨pb,2,none⟩=some (.int .i64 pz)) u0:=⟨HN2'.out.cell 1,HN2'.out.cell 2⟩
     clear hu0;refine tk 0 ?_;(try simp only[Act.put,lz3,lz4,lz5]);refine tk 1 ?_;(try simp only[Act.put,lz3,lz4,lz5]);refine tk 5 ?_;(try simp only[Act.put,lz3,lz4,lz5]);refine tk 2 ?_;(try simp only[Act.put,lz3,lz4,lz5]);refine tk 6 ?_;(try simp only[Act.put,lz3,lz4,lz5]);refine tk 3 ?_;(try simp only[Act.put,lz3,lz4,lz5]);refine rd2 4 7 ?sz7 ?sz8;case sz7=>
      intro K hK;obtain⟨-,-,yq1⟩:=HP2.out.atV;rw[<- HM.out]at yq1;go_simp;clear yq1;refine hK.out _ _ ⟨HN2'.out.cell 1,HN2'.out.cell 2⟩ (λhz9=>?_);clear hK K;(try simp only[Act.put,lz3,lz4,lz5]);refine rd1 7 ?sz10;case sz10=>
       intro K hK;go_simp;obtain⟨uq2,huq3⟩:=Ze (u0.alloc (.cells #[.int .i64 pp,.int .i64 pz] 64));have Mq7:Hid (Blk uq2 u0.heap.size 64 #[.int .i64 pp,.int .i64 pz]):=Zh (by rw[huq3];exact Blk.new _ _ _);rw[<- huq3];have hNq4:Below u0.heap.size u0 uq2:=by rw[huq3];exact(Ybm _ u0).alloc (Yar _) _
       have Nq4:=Zh (HN2'.out.below hNq4 HN2'.out.lt);have Pq6:=Zh (HP2.out.below hNq4);have Wq5:=Zh (Zaa HW2'.out hNq4 HW2'.out.size);clear huq3 hNq4;refine hK.out _ _ ⟨Nq4.out.cell 1,Nq4.out.cell 2⟩ (λhz11=>?_);clear hK K;(try simp only[Act.put,lz3,lz4,lz5]);refine rd1 8 ?sz12;case sz12=>
        intro K hK;refine Zar _ rfl (.tmp 50) (.tmp 53) 60 rfl w.heap.size 64 i1 _ 2 16 Tryz.underlying60 hi1 hy0 hy1 hy2 rfl (by decide) _ sl _ rfl (by have h1:=Pq6.out.spots;rw[<- HSL.out]at h1;exact h1) ⟨u0.heap.size,0,none⟩ 1 1 (Zat (pp,pz)) rfl rfl (Zda (p:=(pp,.int .i64 pz)) Mq7.out) (Zgg _) (by unfold maxLen;omega) (by omega) Wq5.out.size ?_;intro vq12 uq8 hwq9 hgq10 hlq11;obtain⟨Avq12,cvq12,rfl⟩:=Zac hwq9;have Nq13:=Zh (Nq4.out.grown hgq10 (λe=>(HPV.out pb e.symm).2 rfl));have Wq14:=Zh (Wq5.out.grown hgq10 Wq5.out.size (λg hg=>(HPV.out g hg).1));have Hhwq9:=Zh hwq9;have Hhgq10:=Zh hgq10;have Hhlq11:=Zh hlq11;clear hwq9 hgq10 hlq11;refine hK.out _ _ ⟨Nq13.out.cell 1,Nq13.out.cell 2⟩ (λhz13=>?_);clear hK K;(try simp only[Act.put,lz3,lz4,lz5]);refine tk 9 ?_;(try simp only[Act.put,lz3,lz4,lz5]);refine tk 10 ?_;(try simp only[Act.put,lz3,lz4,lz5]);refine rd1 11 ?sz16;case sz16=>
         intro K hK;obtain⟨kq15,fzq16,hbq17,hpq18⟩:=PostB.spot (s:=(pp,pz)) Pq6.out Hhgq10.out (by rw[<- HSL.out];exact Hhwq9.out) Hhlq11.out (by have h1:=HPF.out;exact⟨by unfold Zaj;omega,by unfold Zaj;omega⟩);rw[<- HM.out]at kq15 fzq16 hbq17 hpq18;go_simp;clear kq15 fzq16;have Nq19:=Zh (Nq13.out.far (p:=⟨(pl.add (m*2)).block,(pl.add (m*2)).off+1,none⟩) HPN.out (.slice Avq12 (sl+1) cvq12));have Wq20:=Zh (Wq14.out.setCell (p:=⟨(pl.add (m*2)).block,(pl.add (m*2)).off+1,none⟩) hbq17 (.slice Avq12 (sl+1) cvq12));have Pq21:=Zh hpq18;clear hbq17 hpq18;refine hK.out _ _ ⟨Nq19.out.cell 1,Nq19.out.cell 2⟩ (λhz17=>?_);clear hK K;(try simp only[Act.put,lz3,lz4,lz5]);refine Yb9 (by kernel_rfl) ?_ _;go_wp2;go_roundw;case rel=>exact⟨i+1,by omega,by go_num,Wq20.out,.inr ⟨P,_,_,HGN.out,Pq21.out⟩⟩
         case measure=>simp[Go.RowKit.intOf];omega
     case sz8=>
      intro K hK;go_simp;obtain⟨uq22,huq23⟩:=Ze (u0.alloc (.cells #[.int .i64 pp,.int .i64 pz] 64));have Mq27:Hid (Blk uq22 u0.heap.size 64 #[.int .i64 pp,.int .i64 pz]):=Zh (by rw[huq23];exact Blk.new _ _ _);rw[<- huq23];have hNq24:Below u0.heap.size u0 uq22:=by rw[huq23];exact(Ybm _ u0).alloc (Yar _) _
      have Nq24:=Zh (HN2'.out.below hNq24 HN2'.out.lt);have Pq26:=Zh (HP2.out.below hNq24);have Wq25:=Zh (Zaa HW2'.out hNq24 HW2'.out.size);clear huq23 hNq24;refine hK.out _ _ ⟨Nq24.out.cell 1,Nq24.out.cell 2⟩ (λhz18=>?_);clear hK K;(try simp only[Act.put,lz3,lz4,lz5]);refine rd1 4 ?sz19;case sz19=>
       intro K hK;obtain⟨-,-,yq28⟩:=Pq26.out.atV;rw[<- HM.out]at yq28;go_simp;clear yq28;refine hK.out _ _ ⟨Nq24.out.cell 1,Nq24.out.cell 2⟩ (λhz20=>?_);clear hK K;(try simp only[Act.put,lz3,lz4,lz5]);refine rd1 8 ?sz21;case sz21=>
        intro K hK;refine Zar _ rfl (.tmp 50) (.tmp 53) 60 rfl w.heap.size 64 i1 _ 2 16 Tryz.underlying60 hi1 hy0 hy1 hy2 rfl (by decide) _ sl _ rfl (by have h1:=Pq26.out.spots;rw[<- HSL.out]at h1;exact h1) ⟨u0.heap.size,0,none⟩ 1 1 (Zat (pp,pz)) rfl rfl (Zda (p:=(pp,.int .i64 pz)) Mq27.out) (Zgg _) (by unfold maxLen;omega) (by omega) Wq25.out.size ?_;intro vq33 uq29 hwq30 hgq31 hlq32;obtain⟨Avq33,cvq33,rfl⟩:=Zac hwq30;have Nq34:=Zh (Nq24.out.grown hgq31 (λe=>(HPV.out pb e.symm).2 rfl));have Wq35:=Zh (Wq25.out.grown hgq31 Wq25.out.size (λg hg=>(HPV.out g hg).1));have Hhwq30:=Zh hwq30;have Hhgq31:=Zh hgq31;have Hhlq32:=Zh hlq32;clear hwq30 hgq31 hlq32;refine hK.out _ _ ⟨Nq34.out.cell 1,Nq34.out.cell 2⟩ (λhz22=>?_);clear hK K;(try simp only[Act.put,lz3,lz4,lz5]);refine tk 9 ?_;(try simp only[Act.put,lz3,lz4,lz5]);refine tk 10 ?_;(try simp only[Act.put,lz3,lz4,lz5]);refine rd1 11 ?sz25;case sz25=>
         intro K hK;obtain⟨kq36,fzq37,hbq38,hpq39⟩:=PostB.spot (s:=(pp,pz)) Pq26.out Hhgq31.out (by rw[<- HSL.out];exact Hhwq30.out) Hhlq32.out (by have h1:=HPF.out;exact⟨by unfold Zaj;omega,by unfold Zaj;omega⟩);rw[<- HM.out]at kq36 fzq37 hbq38 hpq39;go_simp;clear kq36 fzq37;have Nq40:=Zh (Nq34.out.far (p:=⟨(pl.add (m*2)).block,(pl.add (m*2)).off+1,none⟩) HPN.out (.slice Avq33 (sl+1) cvq33));have Wq41:=Zh (Wq35.out.setCell (p:=⟨(pl.add (m*2)).block,(pl.add (m*2)).off+1,none⟩) hbq38 (.slice Avq33 (sl+1) cvq33));have Pq42:=Zh hpq39;clear hbq38 hpq39;refine hK.out _ _ ⟨Nq40.out.cell 1,Nq40.out.cell 2⟩ (λhz26=>?_);clear hK K;(try simp only[Act.put,lz3,lz4,lz5]);refine Yb9 (by kernel_rfl) ?_ _;go_wp2;go_roundw;case rel=>exact⟨i+1,by omega,by go_num,Wq41.out,.inr ⟨P,_,_,HGN.out,Pq42.out⟩⟩
         case measure=>simp[Go.RowKit.intOf];omega
  ·obtain rfl:i=n:=by omega
   have hlz:¬ ((i:Int)<(i:Int)):=by omega
   have d1:decide ((i:Int)<(i:Int))=false:=by simp
   have HFN:Hid (Zfd (ps.take i)=Zax L t):=Zh (by rw[HN.out,Ya6];exact HPO.out);have HO:Hid (PostsO wr w.heap.size u5 (Zax L t)):=Zh (by
    rw[<- HFN.out];rcases HST.out with⟨rfl,rfl⟩|⟨P,x,vs,hg,hPB⟩
    ·exact PostsO.nil _ _
    ·rw[hg]
     exact hPB.posts (by have:=HSMI.out.2 x (by rw[hg];simp);unfold maxLen;omega))
   have hML:(Zax L t).length<=20000:=by have:=HSMI.out.1;rw[HFN.out]at this;omega
   clear HOV;go_wp2;go_ret;obtain⟨Ax,cx,hv,hc⟩:∃ A c,u5=.slice A (Zax L t).length c/\(Zax L t).length<=c:=by
    obtain⟨R,_,h1,_⟩:=HO.out;obtain⟨A,c,rfl⟩:=Zac h1;exact⟨A,c,rfl,Zbi h1⟩
   subst hv;exact⟨Ax,cx,rfl,HO.out.see rfl (by unfold maxLen;omega),hc,HBW.out⟩
end Go.Proofs.YthcjikpabpgpfaaGreat
