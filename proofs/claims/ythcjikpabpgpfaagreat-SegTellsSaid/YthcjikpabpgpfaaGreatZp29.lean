import Derived.Test.YthcjikpabpgpfaaGreatZp25
set_option linter.unusedSimpArgs false
set_option maxHeartbeats 16000000
set_option maxRecDepth 100000
namespace Go.Proofs.YthcjikpabpgpfaaGreat
open Go.RowKit Go.Maps Go.WideMaps
theorem Zpi {l:List Nm} {d:Nat}:∀ {i:Nat} {T:List (Int×List Pst)},Zbn l d i=some T->∀ x∈T,x.1<=Zfi T
 | 0,T,h=>by simp[Zbn]at h;subst h;simp
 | i+1,T,h=>by
  simp only[Zbn]at h;split at h
  ·cases h
  ·rename_i T0 h0
   split at h
   ·cases h
   ·rename_i hb
    cases h
    have h1:=(termBad_is.1 hb).1;intro x hx;rw[Ziw];rcases Ybj.1 hx with hx|hx
    ·have:=Zpi h0 x hx
     simp only;omega
    ·rw[Ybi.1 hx]
     exact Int.le_refl _
def Zz7 (w:World) (r:Option (List (Int×List Pst))) (e:Ending) (w':World):Prop:=
 ∃ v ok,e=.returned (.tuple #[v,.bool ok])/\Below w.heap.size w w'/\match r with
  | none=>ok=false
  | some T=>ok=true/\∃ mb f,v=.map (some mb)/\w.heap.size<=mb/\BMap w' mb T.length f (λi=>mb<i/\i<w'.heap.size)/\SegF f T
theorem Zro (w:World) (A:Option Addr) (n c d:Nat) (L l:List Nm) (h:RowsSee w A n L) (hn:n<=1000000) (hs:∀ x∈L,x.length<=262144) (hl:∀ j,j<n->l.getD (1+d+j) []=L.getD j []):
  Calls Tryz.prog 52 #[.slice A n c,.int .i64 d] w (Zz7 w (Zbn l d n)):=by
 obtain⟨R,hR⟩:=Ze (Zbn l d n);rw[<- hR];have HR:=Zh hR;have HL:=Zh h;have HS:=Zh hs;have HLL:=Zh hl;have hmm:=@run_makeMap Tryz.prog;clear h hs hl hR;go_enter Tryz.func52,Tryz.ntmps52;go_wp2;clear hmm;obtain⟨W,hW⟩:=Ze (w.alloc (.map #[] 0));obtain⟨mb,hmb⟩:=Ze w.heap.size;have hm0:BMap W mb 0 (λ_=>none) (λi=>mb<i/\i<W.heap.size):=by rw[hW,hmb];exact BMap.made w _
 have hb0:Below w.heap.size w W:=by rw[hW];exact(Ybm _ w).alloc (Yar _) _
 rw[<- hW,<- hmb];have HM0:=Zh hm0;have HB0:=Zh hb0;have HMB:Hid (w.heap.size<=mb):=Zh (Nat.le_of_eq hmb.symm);clear hm0 hb0 hW hmb;go_loopw [7,16] (λls i wr=>∃ (k:Nat) (T:List (Int×List Pst)) (f:Int->Option Nm),k<=n/\i=.int .i64 k/\ls=.int .i64 (Zfi T+1)/\Zbn l d k=some T/\BMap wr mb T.length f (λi=>mb<i/\i<wr.heap.size)/\SegF f T/\Below w.heap.size w wr) (λ_ i _=>n-(intOf i).toNat);case atStart=>exact⟨0,[],_,by omega,rfl,rfl,rfl,HM0.out,SegF.nil,HB0.out⟩
 case round=>
  clear HM0 HB0;obtain⟨k,T,F,hk,rfl,rfl,ht,hm,hf,hb⟩:=hrel;have HTG:=Zh ht;have HM:=Zh hm;have HF:=Zh hf;have HB:=Zh hb;have hsz:=hb.size;have HTL:=Zh (Zg7 ht);obtain⟨LT,hLT⟩:=Ze (Zfi T+1);rw[<- hLT];have HLT:=Zh hLT;clear ht hm hf hb hLT;rcases Yab k n with hlt|hge
  ·have d2:decide ((k:Int)<(n:Int))=true:=by simpa using hlt
   have p0:(0:Int)<=(k:Int):=by omega
   have p1:(k:Int)<(n:Int):=by omega
   obtain⟨f,hf⟩:∃ f,L[k]?=some f:=⟨_,Yax (by have:=HL.out.len;omega)⟩
   have hfs:=HS.out f (Ybz hf);obtain⟨ad,B1,c1,rfl,hcell,hcc,hB1⟩:=(HL.out.below HB.out).at_ k f hf;have HFR:=Zh (show l.getD (1+d+k) []=f by rw[HLL.out k hlt,Yaw,hf];rfl);have HBY:=Zh hB1;clear hf hB1;go_wp2_with fail;refine(Zlm wr B1 f.length c1 f HBY.out (by omega)).mono ?_;rintro e v1 ⟨q,b,g,rfl,hq,hql,hbl,hb1⟩;have HQ1:=Zh hq;have HW1:=Zh hb1;have hqv:=hq.blk.lt;have y1:=hq.blk.cell 0;simp only[lz0,lz1,lz2]at y1;clear hq hb1 hcell hcc HBY;go_wp2_with fail;refine(Zjw v1 b g ⟨f,0,0⟩ HQ1.out.rd 511 (by omega) (by omega)).mono ?_;rintro e v2 ⟨rfl,hr2,hk2⟩;obtain⟨tk,htk⟩:=Ze ((rInt ⟨f,0,0⟩ 511).1);obtain⟨s1,hs1e⟩:=Ze ((rInt ⟨f,0,0⟩ 511).2);have htk1:=Zdo ⟨f,0,0⟩ (m:=511) (by omega);have hok1:s1.Ok:=by rw[hs1e];exact(Zv9 (s:=⟨f,0,0⟩) ⟨Ybd _⟩ 511).1
   have hbs1:s1.bs=f:=by rw[hs1e];exact Zkw _ _
   rw[<- htk]at htk1 ⊢;rw[<- hs1e]at hr2;have HQ2:=Zh (HQ1.out.read hk2 hr2);have HW2:=Zh (HW1.out.trans (hk2.toBelow HW1.out.size (λi hi=>by rw[hi];exact hbl)));have hv12:=hk2.size;have HTK:=Zh htk;have HS1e:=Zh hs1e;have HOK1:=Zh hok1;clear hr2 hk2 htk hs1e hok1 y1;go_wp2_with fail;refine(Zmp HQ2.out).mono ?_;rintro e v3 ⟨vx,rfl,hox,hq3,hk3⟩;obtain⟨Tx,hTx⟩:=Ze ((Zbd s1 (Zbt s1)).1);obtain⟨s2,hs2e⟩:=Ze ((Zbd s1 (Zbt s1)).2);have hTl:Tx.length<=262144:=by
    have h1:=(Zc3 s1 (Zbt s1)).1;rw[hbs1]at h1;rw[hTx];omega
   have HTR:Hid (Zlh f=(Tx,s2)):=Zh (by
    unfold Zlh;rw[<- HS1e.out,hTx,hs2e])
   have HEND:Hid (s2.e=0->Zbt s2=0):=Zh (λh=>by rw[hs2e]at h ⊢;exact Zmu HOK1.out h);rw[<- hTx]at hox;rw[<- hs2e]at hq3;obtain⟨Ax,cx,rfl⟩:=Zac hox;have HW3:=Zh (HW2.out.trans (hk3.toBelow HW2.out.size (λi hi=>by rw[hi];exact hbl)));have HIX:Hid (BytesIn v3 Ax Tx.length Tx):=Zh (BytesIn.own hox (by unfold maxLen;omega));have hcx:=Zbi hox;have HAX:Hid (∀ ad,Ax=some ad->v2.heap.size<=ad.block/\ad.block<v3.heap.size):=Zh (λad e=>hox.lt ad.block (by rw[e];rfl));have HQ3:=Zh hq3;have hs12:=HW2.out.size;clear hox hq3 hk3 hTx hs2e HQ2 HQ1 HS1e HOK1;obtain⟨r1,hr1⟩:=Ze (decide (LT<=tk));go_wp2_with fail;rw[<- hr1];have HR1:=Zh hr1;clear hr1;refine(Zi5 HQ3.out r1).mono ?_;rintro e v4 ⟨rfl,hq4,hk4⟩;have HQ4:=Zh hq4;have HW4:=Zh (HW3.out.trans (hk4.toBelow HW3.out.size (λi hi=>by rw[hi];exact hql)));have HIX4:Hid (BytesIn v4 Ax Tx.length Tx):=Zh (HIX.out.keep hk4 (λad e _ h9=>by have:=(HAX.out ad e).1;omega));have hs34:=hk4.size;clear hq4 hk4 HIX HQ3;obtain⟨r2,hr2⟩:=Ze (decide ((getP Tx).2=0/\0<(getP Tx).1.length/\Zjv (getP Tx).1<(d:Int)));have HPO:=Zh (Zr5 v4 Ax Tx.length cx Tx HIX4.out hcx (by omega) (d:Int));rw[<- hr2]at HPO;have HR2:=Zh hr2;clear hr2;go_wp2_with fail;refine HPO.out.mono ?_;rintro e v5 ⟨rfl,hb5⟩;have HQ5:=Zh (HQ4.out.later hb5);have HW5:=Zh (HW4.out.trans (hb5.mono HW4.out.size));have HIX5:=Zh (HIX4.out.below hb5);have hs45:=hb5.size;clear hb5 HPO HQ4 HIX4;go_wp2_with fail;refine(Zi5 HQ5.out r2).mono ?_;rintro e v6 ⟨rfl,hq6,hk6⟩;have HQ6:=Zh hq6;have HW6:=Zh (HW5.out.trans (hk6.toBelow HW5.out.size (λi hi=>by rw[hi];exact hql)));have HIX6:Hid (BytesIn v6 Ax Tx.length Tx):=Zh (HIX5.out.keep hk6 (λad e _ h9=>by have:=(HAX.out ad e).1;omega));have hs56:=hk6.size;clear hq6 hk6 HIX5 HQ5;have HISR:=Zh (Zf9 HQ6.out);obtain⟨B,hB⟩:=Ze ((!(false||!r1||!r2)&&decide (s2.e=0/\Zbt s2=0)));rw[<- hB]at HISR;have hBT:B=true↔¬ Zec f T (d:Int):=by
    have e1:Zi9 f=tk:=by unfold Zi9;rw[HTK.out]
    have e2:Zfs f=getP Tx:=by unfold Zfs;rw[HTR.out]
    have e3:(Zlh f).2.e=s2.e:=by rw[HTR.out]
    rw[termBad_is,e1,e2,e3,hB,HR1.out,HR2.out,<- HLT.out];simp only[Bool.false_or,Yal,Bool.not_eq_true',Bool.or_eq_false_iff,Bool.not_eq_false',decide_eq_true_iff];exact⟨λh=>⟨h.1.1,h.1.2,h.2.1⟩,λh=>⟨⟨h.1,h.2.1⟩,h.2.2,HEND.out h.2.2⟩⟩
   have HBT:=Zh hBT;clear hB hBT;go_wp2_with fail;refine HISR.out.mono ?_;rintro e v7 ⟨rfl,rfl⟩;have HB7:=Zh (HB.out.trans (HW6.out.mono hsz));clear HISR HQ6;cases B with
   | false=>
    have HN:Hid (R=none):=Zh (by
     rw[HR.out];refine Zhd (i:=k+1) ?_ (by omega);simp only[Zbn];rw[HTG.out];simp only;rw[HFR.out,Yag (Classical.not_not.1 λh=>by have:=HBT.out.2 h;cases this)])
    go_wp2;go_ret2;refine⟨_,_,rfl,HB7.out,?_⟩;rw[HN.out]
   | true=>
    have hok:=HBT.out.1 rfl;have hok2:=termBad_is.1 hok;have e1:Zi9 f=tk:=by unfold Zi9;rw[HTK.out]
    have e2:Zfs f=getP Tx:=by unfold Zfs;rw[HTR.out]
    rw[e1,e2]at hok2;have hfresh:∀ x∈T,x.1≠tk:=λx hx e=>by have:=Zpi HTG.out x hx;have:=hok2.1;omega
    have hm7:BMap v7 mb T.length F (λi=>mb<i/\i<v7.heap.size):=HM.out.keep (HW6.out.block mb HM.out.lt) (λi hi=>HW6.out.block i hi.2) (λi hi=>⟨hi.1,Ya7 hi.2 HW6.out.size⟩) HW6.out.size;have hmbl:=HM.out.lt;have hbv:BytesV v7 (λi=>mb<i/\i<v7.heap.size) (.slice Ax Tx.length cx) Tx:=⟨Ax,Tx.length,cx,rfl,HIX6.out,⟨hcx,by omega⟩,λad e _=>by have:=HAX.out ad e;omega⟩
    have htl:T.length<=1000000:=by have:=HTL.out;omega
    obtain⟨w2,hrun,hm2,hg2⟩:=hm7.put (λi hi=>by omega) (by unfold maxLen;omega) (t:=tk) ⟨by omega,by omega⟩ hbv;have HM2:=Zh hm2;have HG2:=Zh hg2;have HOK:=Zh hok;have HF2:Hid (SegF (bPut F tk Tx) (T++[(tk,(getP Tx).1)])):=Zh (HF.out.put hfresh hok2.2.1.1);have HE12:=Zh (And.intro e1 e2);have hwt:IntKind.i64.wrap (tk+1)=tk+1:=Ybo _ (by omega);clear hok hok2 e1 e2 hfresh hm7 hbv hm2 hg2;go_wp2;refine⟨⟨k+1,T++[(tk,(getP Tx).1)],_,by omega,by go_num,by rw[Ziw],?_,?_,HF2.out,HB7.out.grown HG2.out HB7.out.size (λg hg=>by cases hg;exact HMB.out)⟩,by simp[intOf];omega⟩
    ·simp only[Zbn]
     rw[HTG.out];simp only;rw[HFR.out,Yaf HOK.out,HE12.out.1,HE12.out.2]
    ·rw[Yaq,Yae]
     exact HM2.out.keep rfl (λ_ _=>rfl) (λi hi=>⟨hi.1,Ya7 hi.2 HG2.out.size⟩) (Yar _)
  ·obtain rfl:k=n:=by omega
   have d2:decide ((k:Int)<(k:Int))=false:=by simp
   go_wp2;go_ret2;refine⟨_,_,rfl,HB.out,?_⟩;rw[HR.out,HTG.out];exact⟨rfl,mb,F,rfl,HMB.out,HM.out,HF.out⟩
theorem Zt0 {w w':World} {r:Option (List (Nm×Nm)×List (Int×List Pst))} (h:r=none) (hb:Below w.heap.size w w'):Zrk Sg0 w r (.returned (.tuple #[.pointer none,.int .i64 3])) w':=by
 subst h;exact⟨hb,rfl⟩
theorem Zub (w:World) (A:Option Addr) (n c:Nat) (b:Nm) (hb:BytesIn w A n b) (hc:n<=c) (hn:n<=1000000):
  Calls Tryz.prog 15 #[.slice A n c] w (Zrk Sg0 w (Zh4 b)):=by
 have hbl:b.length=n:=by have:=hb.2.1.len;simpa using this
 obtain⟨X,hX⟩:=Ze (Zh4 b);rw[<- hX];obtain⟨L,hL⟩:=Ze ((allF b).1);obtain⟨E,hE⟩:=Ze ((allF b).2);have hLn:L.length<=1000000:=by have:=Zpj b;rw[hL];omega
 have hLs:∀ x∈L,x.length<=262144:=by rw[hL];exact Zmk b
 unfold Zh4 at hX;rw[<- hL,<- hE]at hX;have HX:=Zh hX;have HLS:=Zh hLs;have HIN:=Zh hb;have hG:allF b=(L,E):=by rw[hL,hE]
 have HG:=Zh hG;clear hX hL hE hLs hb hG hbl;go_enter Tryz.func15,Tryz.ntmps15;go_wp2_with fail;refine(Qcc w A n c b HIN.out hc (by omega)).mono ?_;rintro e w1 ⟨v,rfl,hrow,hb1⟩;rw[HG.out]at hrow;rw[HG.out];have hrow:RowsAt w1 w.heap.size v L:=hrow;obtain⟨Ar,nr,cr,rfl⟩:∃ A n c,v=.slice A n c:=by
  obtain⟨svs,h1,-⟩:=hrow;obtain⟨A,c,h⟩:=Zac h1;exact⟨A,_,c,h⟩
 obtain⟨hsee,hnr,hcr⟩:=hrow.see (by unfold maxLen;omega);subst hnr;have HS:=Zh hsee;have HB1:=Zh hb1;clear hrow hsee hb1 HG HIN;by_cases hE0:E=0;case neg=>
  have d0:(E != 0)=true:=by simpa using hE0
  have HN:=Zh (show X=none by rw[HX.out,Yag (.inl hE0)]);clear hE0;go_wp2;go_ret2;exact Zt0 HN.out HB1.out
 subst hE0;by_cases hl0:L.length=0
 ·have HN:=Zh (show X=none by rw[HX.out,Yag (.inr hl0)])
  have d0:(((L.length:Nat):Int)==0)=true:=by simp[hl0]
  have d1:((L.length:Nat):Int)=0:=by omega
  clear hl0;go_wp2;go_ret2;exact Zt0 HN.out HB1.out
 obtain⟨NF,hNF⟩:∃ NF,L.length=NF+1:=⟨L.length-1,by omega⟩
 have hX2:=HX.out;rw[Yaf (by simpa using hl0)]at hX2;obtain⟨f0,hf0⟩:∃ f,L[0]?=some f:=⟨_,Yax (by omega)⟩
 have hf0s:=HLS.out f0 (Ybz hf0);have hgd:L.getD 0 []=f0:=by rw[Yaw,hf0];rfl
 rw[hgd,show(L.length:Int)-1=(NF:Int) by omega]at hX2;obtain⟨pa,B0,c0,rfl,hcell,hc0,hB0⟩:=HS.out.at_ 0 f0 hf0;rw[show pa.add 0=pa by simp[Addr.add]]at hcell;have hcellW:∀ k,(w1.drewN k).cell? pa=some (.slice B0 f0.length c0):=λk=>hcell;obtain⟨Af,hAf⟩:=Ze (Zak (some pa) 1 cr);obtain⟨cf,hcf⟩:=Ze (cr-1);have hsl:∀ w,(Instr.slice 27 (.slice (some pa) (NF+1) cr) (some (.int .i64 1)) none none).run Tryz.prog w=.ok (.slice Af NF cf) w:=λw=>by
  have:=Zqf w (some pa) (NF+1) cr 1 (by omega)
  rw[<- hAf,<- hcf]at this;exact this
 have hsee1:RowsSee w1 Af NF (L.drop 1):=by
  have:=HS.out.from_ hcr 1 (by omega)
  rw[<- hAf,show L.length-1=NF by omega]at this;exact this
 have HX2:=Zh hX2;have HBY:=Zh hB0;have HS1:=Zh hsee1;have hNFc:NF<=cf:=by omega
 have hNFm:NF<=1000000:=by omega
 have HNF:=Zh hNF;have p0:(0:Int)<((NF+1:Nat):Int):=by omega
 have q0:¬ ((NF+1:Nat):Int)=0:=by omega
 have q1:(((NF+1:Nat):Int)==0)=false:=by simp;omega
 rw[hNF]at hcr hLn ⊢;clear hX2 HX hgd hl0 hf0 hB0 hAf hcf hsee1 hcell hNF;go_wp2_with fail;go_quiet (fail);go_wp2_with fail;obtain⟨x1,hx1⟩:=Ze (w1.drewN nq);rw[<- hx1];have HBx:Hid (Below w.heap.size w x1):=Zh (by rw[hx1];exact Zaf HB1.out _);have HBYx:Hid (BytesIn x1 B0 f0.length f0):=Zh (by rw[hx1];exact HBY.out.drewN _);have HSx:Hid (RowsSee x1 Af NF (L.drop 1)):=Zh (by rw[hx1];exact HS1.out.drewN _);clear hx1 HB1 HBY HS1 HS hcellW hsl p0 q0 q1;refine(Zul x1 B0 f0.length c0 f0 HBYx.out (by omega) NF hNFm).mono ?_;rintro e x2 ⟨rfl,hb2⟩;obtain⟨hp1,hp2⟩:=Zz6 f0 (N:=(NF:Int)) (by omega) (by omega);obtain⟨m,ok,hmo⟩:∃ m ok,Zi2 f0 (NF:Int)=(m,ok):=⟨_,_,rfl⟩
 rw[hmo]at hp1 hp2 ⊢;simp only at hp1 hp2 ⊢;have HB2:=Zh (Zaa HBx.out hb2 HBx.out.size);have HS2:=Zh (HSx.out.below hb2);have hX2:=HX2.out;clear hb2 HBx HSx HBYx HX2 hmo;cases ok with
 | false=>
  have HN:=Zh (show X=none by rw[hX2,Yag (Classical.not_not.1 λh=>by have:=hp1.2 h;cases this)]);clear hX2 hp1 hp2;go_wp2;go_ret2;exact Zt0 HN.out HB2.out
 | true=>
  have hC:=hp1.1 rfl;rw[Yaf hC]at hX2;have hm:=hp2 rfl;have ha0:0<=(Zc2 f0).1:=(Zdo ⟨f0,0,0⟩ (m:=1073741824) (by omega)).1;have hb0:0<=(Zc2 f0).2.1:=(Zdo (rInt ⟨f0,0,0⟩ 1073741824).2 (m:=1073741824) (by omega)).1;have hsum:(NF:Int)=(Zc2 f0).1+(Zc2 f0).2.1:=Classical.not_not.1 λh=>hC (.inr (.inr h));obtain⟨dn,rfl⟩:∃ d:Nat,m=d:=⟨m.toNat,by omega⟩
  obtain⟨tn,htn⟩:=Ze (NF-dn);have hdn:dn<=NF:=by omega
  rw[<- hm,Yb3,show(Zc2 f0).2.1.toNat=tn by omega]at hX2;have HX3:=Zh hX2;have HTN:=Zh htn;clear hX2 hC hm ha0 hb0 hsum hp1 hp2 htn;have hsl1:∀ w,(Instr.slice 27 (.slice Af NF cf) none (some (.int .i64 dn)) none).run Tryz.prog w=.ok (.slice Af dn cf) w:=λw=>Qdn w Af NF cf dn (by omega);go_wp2_with fail;refine(Zuq x2 Af dn cf ((L.drop 1).take dn) L (HS2.out.upto dn hdn) (by omega) (λx hx=>HLS.out x (Ycf (Yce hx))) (λj hj=>by
   simp only[Yaw,Yci,Yag hj,Ybv])).mono ?_
  rintro e x3 ⟨vd,okd,rfl,hb3,hres⟩;have HB3:=Zh (Zaa HB2.out hb3 HB2.out.size);have HS3:=Zh (HS2.out.below hb3);clear hb3 hsl1;have hs2:=HB2.out.size;cases hdg:Zc7 L dn with
  | none=>
   rw[hdg]at hres;simp only at hres;subst hres;have HN:=Zh (show X=none by rw[HX3.out,hdg]);clear hdg;go_wp2;go_ret2;exact Zt0 HN.out HB3.out
  | some D=>
   rw[hdg]at hres;simp only at hres;obtain⟨hok,Ad,cd,rfl,hdi,hdc,hdb⟩:=hres;by_cases hR:Zb1 D;case neg=>
    rw[Ybt hR]at hok;subst hok;have HN:=Zh (show X=none by rw[HX3.out,hdg];simp only;rw[Yaf hR]);clear hdg hR hdi hdb;go_wp2;go_ret2;exact Zt0 HN.out HB3.out
   rw[Yb0 hR]at hok;subst hok;have HX4:Hid (X=(Zbn L dn tn).map λT=>(D,T)):=Zh (by rw[HX3.out,hdg];simp only;rw[Yag hR]);have HDI:=Zh hdi;have HDB:=Zh hdb;clear hdg hR hdi hdb HX3;have hsl2:∀ w,(Instr.slice 27 (.slice Af NF cf) (some (.int .i64 dn)) none none).run Tryz.prog w=.ok (.slice (Zak Af dn cf) tn (cf-dn)) w:=λw=>by
    rw[HTN.out];exact Zqf w Af NF cf dn (by omega)
   have hst:RowsSee x3 (Zak Af dn cf) tn ((L.drop 1).drop dn):=by
    rw[HTN.out];exact HS3.out.from_ hNFc dn hdn
   have HST:=Zh hst;have htn:tn<=1000000:=by have:=HTN.out;omega
   clear hst;go_wp2_with fail;refine(Zro x3 (Zak Af dn cf) tn (cf-dn) dn ((L.drop 1).drop dn) L HST.out htn (λx hx=>HLS.out x (Ycf (Ycf hx))) (λj _=>by
    simp only[Yaw,Ybv,Nat.add_assoc])).mono ?_
   rintro e x4 ⟨vt,okt,rfl,hb4,hres⟩;have HB4:=Zh (Zaa HB3.out hb4 HB3.out.size);have HD4:=Zh (HDI.out.below hb4);have hs4:=hb4.size;clear hb4 hsl2;cases htg:Zbn L dn tn with
   | none=>
    rw[htg]at hres;simp only at hres;subst hres;have HN:=Zh (show X=none by rw[HX4.out,htg];rfl);clear htg;go_wp2;go_ret2;exact Zt0 HN.out HB4.out
   | some T=>
    rw[htg]at hres;simp only at hres;obtain⟨rfl,mb,f,rfl,hmb,hbm,hsf⟩:=hres;have HN:=Zh (show X=some (D,T) by rw[HX4.out,htg];rfl);have HBM:=Zh hbm;have HSF:=Zh hsf;have hs3:=HB3.out.size;clear htg hbm hsf;go_wp2;go_ret2;obtain⟨W,hW⟩:=Ze (x4.alloc (.cells #[.slice Ad D.length cd,.map (some mb)] 112));have hbW:Below x4.heap.size x4 W:=by rw[hW];exact(Ybm _ _).alloc (Yar _) _
    have hsW:W.heap.size=x4.heap.size+1:=by rw[hW];simp
    have hbl:Blk W x4.heap.size 112 #[.slice Ad D.length cd,.map (some mb)]:=by rw[hW];exact Blk.new _ _ _
    rw[<- hW];have hs:=HB2.out.size;refine⟨Zaa HB4.out hbW HB4.out.size,?_⟩;rw[HN.out];have hmbl:=HBM.out.lt;refine⟨x4.heap.size,λi=>w.heap.size<=i/\i<W.heap.size,rfl,⟨⟨by omega,by omega⟩,λi hi=>hi.2,Ad,cd,mb,f,hbl,hdc,⟨HD4.out.below hbW,λad e h0=>by have:=HDB.out ad e h0;exact⟨by omega,by omega⟩⟩,⟨by omega,by omega⟩,HBM.out.keep (hbW.block mb hmbl) (λi hi=>hbW.block i hi.2) (λi hi=>⟨⟨by omega,by omega⟩,by omega⟩) (by omega),HSF.out⟩,λi hi=>hi.1⟩
end Go.Proofs.YthcjikpabpgpfaaGreat
