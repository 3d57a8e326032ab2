import Derived.Test.YthcjikpabpgpfaaGreatZp0
import Derived.Test.YthcjikpabpgpfaaGreatZp40
import Derived.Test.YthcjikpabpgpfaaGreatZp20
import Derived.Test.YthcjikpabpgpfaaGreatZp9
import Derived.Test.YthcjikpabpgpfaaGreatZp41
set_option linter.unusedSimpArgs false
set_option maxHeartbeats 16000000
set_option maxRecDepth 100000
namespace Go.Proofs.YthcjikpabpgpfaaGreat
open Go.RowKit Go.Maps Go.WideMaps
theorem termsG_le {l:List Nm} {d:Nat}:∀ {i:Nat} {T:List (Int×List Pst)},termsG l d i=some T→∀ x∈T,x.1≤lastT T
 | 0,T,h=>by simp [termsG] at h;subst h;simp
 | i+1,T,h=>by
  simp only [termsG] at h
  split at h
  ·cases h
  ·rename_i T0 h0
   split at h
   ·cases h
   ·rename_i hb
    cases h
    have h1:=(termBad_is.1 hb).1
    intro x hx
    rw [lastT_snoc]
    rcases List.mem_append.1 hx with hx | hx
    ·have:=termsG_le h0 x hx
     simp only
     omega
    ·rw [List.mem_singleton.1 hx]
     exact Int.le_refl _
def TermsOut (w:World) (r:Option (List (Int×List Pst))) (e:Ending) (w':World):Prop:=
 ∃ v ok,e=.returned (.tuple #[v,.bool ok])∧Below w.heap.size w w'∧match r with
  | none=>ok=false
  | some T=>ok=true∧∃ mb f,v=.map (some mb)∧w.heap.size≤mb∧BMap w' mb T.length f (fun i=>mb < i∧i < w'.heap.size)∧SegF f T
theorem spTerms_any (w:World) (A:Option Addr) (n c d:Nat) (L l:List Nm) (h:RowsSee w A n L) (hn:n≤1000000) (hs:∀ x∈L,x.length≤262144) (hl:∀ j,j < n→l.getD (1+d+j) []=L.getD j []):
  Calls Tryz.prog 52 #[.slice A n c,.int .i64 d] w (TermsOut w (termsG l d n)):=by
 obtain ⟨R,hR⟩:∃ R,R=termsG l d n:=⟨_,rfl⟩
 rw [← hR]
 have HR:=Lib.hid hR
 have HL:=Lib.hid h
 have HS:=Lib.hid hs
 have HLL:=Lib.hid hl
 have hmm:=@run_makeMap Tryz.prog
 clear h hs hl hR
 go_enter Tryz.func52,Tryz.ntmps52
 go_wp2
 clear hmm
 obtain ⟨W,hW⟩:∃ z,z=w.alloc (.map #[] 0):=⟨_,rfl⟩
 obtain ⟨mb,hmb⟩:∃ z,z=w.heap.size:=⟨_,rfl⟩
 have hm0:BMap W mb 0 (fun _=>none) (fun i=>mb < i∧i < W.heap.size):=by rw [hW,hmb];exact BMap.made w _
 have hb0:Below w.heap.size w W:=by rw [hW];exact (Below.refl _ w).alloc (Nat.le_refl _) _
 rw [← hW,← hmb]
 have HM0:=Lib.hid hm0
 have HB0:=Lib.hid hb0
 have HMB:Hid (w.heap.size≤mb):=Lib.hid (Nat.le_of_eq hmb.symm)
 clear hm0 hb0 hW hmb
 go_loopw [7,16] (fun ls i wr=>∃ (k:Nat) (T:List (Int×List Pst)) (f:Int→Option Nm),k≤n∧i=.int .i64 k∧ls=.int .i64 (lastT T+1)∧termsG l d k=some T∧BMap wr mb T.length f (fun i=>mb < i∧i < wr.heap.size)∧SegF f T∧Below w.heap.size w wr) (fun _ i _=>n - (intOf i).toNat)
 case atStart=>exact ⟨0,[],_,by omega,rfl,rfl,rfl,HM0.out,SegF.nil,HB0.out⟩
 case round=>
  clear HM0 HB0
  obtain ⟨k,T,F,hk,rfl,rfl,ht,hm,hf,hb⟩:=hrel
  have HTG:=Lib.hid ht
  have HM:=Lib.hid hm
  have HF:=Lib.hid hf
  have HB:=Lib.hid hb
  have hsz:=hb.size
  have HTL:=Lib.hid (termsG_len ht)
  obtain ⟨LT,hLT⟩:∃ z,z=lastT T+1:=⟨_,rfl⟩
  rw [← hLT]
  have HLT:=Lib.hid hLT
  clear ht hm hf hb hLT
  rcases Nat.lt_or_ge k n with hlt | hge
  ·have d2:decide ((k:Int) < (n:Int))=true:=by simpa using hlt
   have p0:(0:Int)≤(k:Int):=by omega
   have p1:(k:Int) < (n:Int):=by omega
   obtain ⟨f,hf⟩:∃ f,L[k]?=some f:=⟨_,List.getElem?_eq_getElem (by have:=HL.out.len;omega)⟩
   have hfs:=HS.out f (List.mem_of_getElem? hf)
   obtain ⟨ad,B1,c1,rfl,hcell,hcc,hB1⟩:=(HL.out.below HB.out).at_ k f hf
   have HFR:=Lib.hid (show l.getD (1+d+k) []=f by rw [HLL.out k hlt,List.getD_eq_getElem?_getD,hf];rfl)
   have HBY:=Lib.hid hB1
   clear hf hB1
   go_wp2_with fail
   refine (spNew_any wr B1 f.length c1 f HBY.out (by omega)).mono ?_
   rintro e v1 ⟨q,b,g,rfl,hq,hql,hbl,hb1⟩
   have HQ1:=Lib.hid hq
   have HW1:=Lib.hid hb1
   have hqv:=hq.blk.lt
   have y1:=hq.blk.cell 0
   simp only [lz0,lz1,lz2] at y1
   clear hq hb1 hcell hcc HBY
   go_wp2_with fail
   refine (lInt_any v1 b g ⟨f,0,0⟩ HQ1.out.rd 511 (by omega) (by omega)).mono ?_
   rintro e v2 ⟨rfl,hr2,hk2⟩
   obtain ⟨tk,htk⟩:∃ t,t=(rInt ⟨f,0,0⟩ 511).1:=⟨_,rfl⟩
   obtain ⟨s1,hs1e⟩:∃ s,s=(rInt ⟨f,0,0⟩ 511).2:=⟨_,rfl⟩
   have htk1:=rInt_in ⟨f,0,0⟩ (m:=511) (by omega)
   have hok1:s1.Ok:=by rw [hs1e];exact (rInt_ok (s:=⟨f,0,0⟩) ⟨Nat.zero_le _⟩ 511).1
   have hbs1:s1.bs=f:=by rw [hs1e];exact rInt_bs _ _
   rw [← htk] at htk1 ⊢
   rw [← hs1e] at hr2
   have HQ2:=Lib.hid (HQ1.out.read hk2 hr2)
   have HW2:=Lib.hid (HW1.out.trans (hk2.toBelow HW1.out.size (fun i hi=>by rw [hi];exact hbl)))
   have hv12:=hk2.size
   have HTK:=Lib.hid htk
   have HS1e:=Lib.hid hs1e
   have HOK1:=Lib.hid hok1
   clear hr2 hk2 htk hs1e hok1 y1
   go_wp2_with fail
   refine (spRest_any HQ2.out).mono ?_
   rintro e v3 ⟨vx,rfl,hox,hq3,hk3⟩
   obtain ⟨Tx,hTx⟩:∃ T,T=(rBytes s1 (rLeft s1)).1:=⟨_,rfl⟩
   obtain ⟨s2,hs2e⟩:∃ s,s=(rBytes s1 (rLeft s1)).2:=⟨_,rfl⟩
   have hTl:Tx.length≤262144:=by
    have h1:=(rBytes_le13 s1 (rLeft s1)).1
    rw [hbs1] at h1
    rw [hTx]
    omega
   have HTR:Hid (termR f=(Tx,s2)):=Lib.hid (by
    unfold termR
    rw [← HS1e.out,hTx,hs2e])
   have HEND:Hid (s2.e=0→rLeft s2=0):=Lib.hid (fun h=>by rw [hs2e] at h ⊢;exact rRest_left HOK1.out h)
   rw [← hTx] at hox
   rw [← hs2e] at hq3
   obtain ⟨Ax,cx,rfl⟩:=own_slice hox
   have HW3:=Lib.hid (HW2.out.trans (hk3.toBelow HW2.out.size (fun i hi=>by rw [hi];exact hbl)))
   have HIX:Hid (BytesIn v3 Ax Tx.length Tx):=Lib.hid (BytesIn.own hox (by unfold maxLen;omega))
   have hcx:=rowCap_le hox
   have HAX:Hid (∀ ad,Ax=some ad→v2.heap.size≤ad.block∧ad.block < v3.heap.size):=Lib.hid (fun ad e=>hox.lt ad.block (by rw [e];rfl))
   have HQ3:=Lib.hid hq3
   have hs12:=HW2.out.size
   clear hox hq3 hk3 hTx hs2e HQ2 HQ1 HS1e HOK1
   obtain ⟨r1,hr1⟩:∃ r,r=decide (LT≤tk):=⟨_,rfl⟩
   go_wp2_with fail
   rw [← hr1]
   have HR1:=Lib.hid hr1
   clear hr1
   refine (spWant_any HQ3.out r1).mono ?_
   rintro e v4 ⟨rfl,hq4,hk4⟩
   have HQ4:=Lib.hid hq4
   have HW4:=Lib.hid (HW3.out.trans (hk4.toBelow HW3.out.size (fun i hi=>by rw [hi];exact hql)))
   have HIX4:Hid (BytesIn v4 Ax Tx.length Tx):=Lib.hid (HIX.out.keep hk4 (fun ad e _ h9=>by have:=(HAX.out ad e).1;omega))
   have hs34:=hk4.size
   clear hq4 hk4 HIX HQ3
   obtain ⟨r2,hr2⟩:∃ r,r=decide ((getP Tx).2=0∧0 < (getP Tx).1.length∧lastP (getP Tx).1 < (d:Int)):=⟨_,rfl⟩
   have HPO:=Lib.hid (spPosts_any v4 Ax Tx.length cx Tx HIX4.out hcx (by omega) (d:Int))
   rw [← hr2] at HPO
   have HR2:=Lib.hid hr2
   clear hr2
   go_wp2_with fail
   refine HPO.out.mono ?_
   rintro e v5 ⟨rfl,hb5⟩
   have HQ5:=Lib.hid (HQ4.out.later hb5)
   have HW5:=Lib.hid (HW4.out.trans (hb5.mono HW4.out.size))
   have HIX5:=Lib.hid (HIX4.out.below hb5)
   have hs45:=hb5.size
   clear hb5 HPO HQ4 HIX4
   go_wp2_with fail
   refine (spWant_any HQ5.out r2).mono ?_
   rintro e v6 ⟨rfl,hq6,hk6⟩
   have HQ6:=Lib.hid hq6
   have HW6:=Lib.hid (HW5.out.trans (hk6.toBelow HW5.out.size (fun i hi=>by rw [hi];exact hql)))
   have HIX6:Hid (BytesIn v6 Ax Tx.length Tx):=Lib.hid (HIX5.out.keep hk6 (fun ad e _ h9=>by have:=(HAX.out ad e).1;omega))
   have hs56:=hk6.size
   clear hq6 hk6 HIX5 HQ5
   have HISR:=Lib.hid (spIsRead_any HQ6.out)
   obtain ⟨B,hB⟩:∃ B,B=(!(false||!r1||!r2)&&decide (s2.e=0∧rLeft s2=0)):=⟨_,rfl⟩
   rw [← hB] at HISR
   have hBT:B=true↔¬ termBad f T (d:Int):=by
    have e1:termT f=tk:=by unfold termT;rw [HTK.out]
    have e2:termP f=getP Tx:=by unfold termP;rw [HTR.out]
    have e3:(termR f).2.e=s2.e:=by rw [HTR.out]
    rw [termBad_is,e1,e2,e3,hB,HR1.out,HR2.out,← HLT.out]
    simp only [Bool.false_or,Bool.and_eq_true,Bool.not_eq_true',Bool.or_eq_false_iff,Bool.not_eq_false',decide_eq_true_iff]
    exact ⟨fun h=>⟨h.1.1,h.1.2,h.2.1⟩,fun h=>⟨⟨h.1,h.2.1⟩,h.2.2,HEND.out h.2.2⟩⟩
   have HBT:=Lib.hid hBT
   clear hB hBT
   go_wp2_with fail
   refine HISR.out.mono ?_
   rintro e v7 ⟨rfl,rfl⟩
   have HB7:=Lib.hid (HB.out.trans (HW6.out.mono hsz))
   clear HISR HQ6
   cases B with
   | false=>
    have HN:Hid (R=none):=Lib.hid (by
     rw [HR.out]
     refine termsG_none (i:=k+1) ?_ (by omega)
     simp only [termsG]
     rw [HTG.out]
     simp only
     rw [HFR.out,if_pos (Classical.not_not.1 fun h=>by have:=HBT.out.2 h;cases this)])
    go_wp2
    go_ret2
    refine ⟨_,_,rfl,HB7.out,?_⟩
    rw [HN.out]
   | true=>
    have hok:=HBT.out.1 rfl
    have hok2:=termBad_is.1 hok
    have e1:termT f=tk:=by unfold termT;rw [HTK.out]
    have e2:termP f=getP Tx:=by unfold termP;rw [HTR.out]
    rw [e1,e2] at hok2
    have hfresh:∀ x∈T,x.1≠tk:=fun x hx e=>by have:=termsG_le HTG.out x hx;have:=hok2.1;omega
    have hm7:BMap v7 mb T.length F (fun i=>mb < i∧i < v7.heap.size):=HM.out.keep (HW6.out.block mb HM.out.lt) (fun i hi=>HW6.out.block i hi.2) (fun i hi=>⟨hi.1,Nat.lt_of_lt_of_le hi.2 HW6.out.size⟩) HW6.out.size
    have hmbl:=HM.out.lt
    have hbv:BytesV v7 (fun i=>mb < i∧i < v7.heap.size) (.slice Ax Tx.length cx) Tx:=⟨Ax,Tx.length,cx,rfl,HIX6.out,⟨hcx,by omega⟩,fun ad e _=>by have:=HAX.out ad e;omega⟩
    have htl:T.length≤1000000:=by have:=HTL.out;omega
    obtain ⟨w2,hrun,hm2,hg2⟩:=hm7.put (fun i hi=>by omega) (by unfold maxLen;omega) (t:=tk) ⟨by omega,by omega⟩ hbv
    have HM2:=Lib.hid hm2
    have HG2:=Lib.hid hg2
    have HOK:=Lib.hid hok
    have HF2:Hid (SegF (bPut F tk Tx) (T++[(tk,(getP Tx).1)])):=Lib.hid (HF.out.put hfresh hok2.2.1.1)
    have HE12:=Lib.hid (And.intro e1 e2)
    have hwt:IntKind.i64.wrap (tk+1)=tk+1:=IntWalk.i64_in _ (by omega)
    clear hok hok2 e1 e2 hfresh hm7 hbv hm2 hg2
    go_wp2
    refine ⟨⟨k+1,T++[(tk,(getP Tx).1)],_,by omega,by go_num,by rw [lastT_snoc],?_,?_,HF2.out,HB7.out.grown HG2.out HB7.out.size (fun g hg=>by cases hg;exact HMB.out)⟩,by simp [intOf];omega⟩
    ·simp only [termsG]
     rw [HTG.out]
     simp only
     rw [HFR.out,if_neg HOK.out,HE12.out.1,HE12.out.2]
    ·rw [List.length_append,List.length_singleton]
     exact HM2.out.keep rfl (fun _ _=>rfl) (fun i hi=>⟨hi.1,Nat.lt_of_lt_of_le hi.2 HG2.out.size⟩) (Nat.le_refl _)
  ·obtain rfl:k=n:=by omega
   have d2:decide ((k:Int) < (k:Int))=false:=by simp
   go_wp2
   go_ret2
   refine ⟨_,_,rfl,HB.out,?_⟩
   rw [HR.out,HTG.out]
   exact ⟨rfl,mb,F,rfl,HMB.out,HM.out,HF.out⟩
theorem segNo {w w':World} {r:Option (List (Nm×Nm)×List (Int×List Pst))} (h:r=none) (hb:Below w.heap.size w w'):SegOpen Sg0 w r (.returned (.tuple #[.pointer none,.int .i64 3])) w':=by
 subst h
 exact ⟨hb,rfl⟩
theorem s0Open_any (w:World) (A:Option Addr) (n c:Nat) (b:Nm) (hb:BytesIn w A n b) (hc:n≤c) (hn:n≤1000000):
  Calls Tryz.prog 15 #[.slice A n c] w (SegOpen Sg0 w (openR b)):=by
 have hbl:b.length=n:=by have:=hb.2.1.len;simpa using this
 obtain ⟨X,hX⟩:∃ X,X=openR b:=⟨_,rfl⟩
 rw [← hX]
 obtain ⟨L,hL⟩:∃ L,L=(allF b).1:=⟨_,rfl⟩
 obtain ⟨E,hE⟩:∃ E,E=(allF b).2:=⟨_,rfl⟩
 have hLn:L.length≤1000000:=by have:=allF_many b;rw [hL];omega
 have hLs:∀ x∈L,x.length≤262144:=by rw [hL];exact allF_small b
 unfold openR at hX
 rw [← hL,← hE] at hX
 have HX:=Lib.hid hX
 have HLS:=Lib.hid hLs
 have HIN:=Lib.hid hb
 have hG:allF b=(L,E):=by rw [hL,hE]
 have HG:=Lib.hid hG
 clear hX hL hE hLs hb hG hbl
 go_enter Tryz.func15,Tryz.ntmps15
 go_wp2_with fail
 refine (fAll_any w A n c b HIN.out hc (by omega)).mono ?_
 rintro e w1 ⟨v,rfl,hrow,hb1⟩
 rw [HG.out] at hrow
 rw [HG.out]
 have hrow:RowsAt w1 w.heap.size v L:=hrow
 obtain ⟨Ar,nr,cr,rfl⟩:∃ A n c,v=.slice A n c:=by
  obtain ⟨svs,h1,-⟩:=hrow
  obtain ⟨A,c,h⟩:=own_slice h1
  exact ⟨A,_,c,h⟩
 obtain ⟨hsee,hnr,hcr⟩:=hrow.see (by unfold maxLen;omega)
 subst hnr
 have HS:=Lib.hid hsee
 have HB1:=Lib.hid hb1
 clear hrow hsee hb1 HG HIN
 by_cases hE0:E=0
 case neg=>
  have d0:(E != 0)=true:=by simpa using hE0
  have HN:=Lib.hid (show X=none by rw [HX.out,if_pos (.inl hE0)])
  clear hE0
  go_wp2
  go_ret2
  exact segNo HN.out HB1.out
 subst hE0
 by_cases hl0:L.length=0
 ·have HN:=Lib.hid (show X=none by rw [HX.out,if_pos (.inr hl0)])
  have d0:(((L.length:Nat):Int)==0)=true:=by simp [hl0]
  have d1:((L.length:Nat):Int)=0:=by omega
  clear hl0
  go_wp2
  go_ret2
  exact segNo HN.out HB1.out
 obtain ⟨NF,hNF⟩:∃ NF,L.length=NF+1:=⟨L.length - 1,by omega⟩
 have hX2:=HX.out
 rw [if_neg (by simpa using hl0)] at hX2
 obtain ⟨f0,hf0⟩:∃ f,L[0]?=some f:=⟨_,List.getElem?_eq_getElem (by omega)⟩
 have hf0s:=HLS.out f0 (List.mem_of_getElem? hf0)
 have hgd:L.getD 0 []=f0:=by rw [List.getD_eq_getElem?_getD,hf0];rfl
 rw [hgd,show (L.length:Int) - 1=(NF:Int) by omega] at hX2
 obtain ⟨pa,B0,c0,rfl,hcell,hc0,hB0⟩:=HS.out.at_ 0 f0 hf0
 rw [show pa.add 0=pa by simp [Addr.add]] at hcell
 have hcellW:∀ k,(w1.drewN k).cell? pa=some (.slice B0 f0.length c0):=fun k=>hcell
 obtain ⟨Af,hAf⟩:∃ z,z=cutAddr (some pa) 1 cr:=⟨_,rfl⟩
 obtain ⟨cf,hcf⟩:∃ z,z=cr - 1:=⟨_,rfl⟩
 have hsl:∀ w,(Instr.slice 27 (.slice (some pa) (NF+1) cr) (some (.int .i64 1)) none none).run Tryz.prog w=.ok (.slice Af NF cf) w:=fun w=>by
  have:=rows_from w (some pa) (NF+1) cr 1 (by omega)
  rw [← hAf,← hcf] at this
  exact this
 have hsee1:RowsSee w1 Af NF (L.drop 1):=by
  have:=HS.out.from_ hcr 1 (by omega)
  rw [← hAf,show L.length - 1=NF by omega] at this
  exact this
 have HX2:=Lib.hid hX2
 have HBY:=Lib.hid hB0
 have HS1:=Lib.hid hsee1
 have hNFc:NF≤cf:=by omega
 have hNFm:NF≤1000000:=by omega
 have HNF:=Lib.hid hNF
 have p0:(0:Int) < ((NF+1:Nat):Int):=by omega
 have q0:¬ ((NF+1:Nat):Int)=0:=by omega
 have q1:(((NF+1:Nat):Int)==0)=false:=by simp;omega
 rw [hNF] at hcr hLn ⊢
 clear hX2 HX hgd hl0 hf0 hB0 hAf hcf hsee1 hcell hNF
 go_wp2_with fail
 go_quiet (fail)
 go_wp2_with fail
 obtain ⟨x1,hx1⟩:∃ z,z=w1.drewN nq:=⟨_,rfl⟩
 rw [← hx1]
 have HBx:Hid (Below w.heap.size w x1):=Lib.hid (by rw [hx1];exact below_drewN HB1.out _)
 have HBYx:Hid (BytesIn x1 B0 f0.length f0):=Lib.hid (by rw [hx1];exact HBY.out.drewN _)
 have HSx:Hid (RowsSee x1 Af NF (L.drop 1)):=Lib.hid (by rw [hx1];exact HS1.out.drewN _)
 clear hx1 HB1 HBY HS1 HS hcellW hsl p0 q0 q1
 refine (spHead_any x1 B0 f0.length c0 f0 HBYx.out (by omega) NF hNFm).mono ?_
 rintro e x2 ⟨rfl,hb2⟩
 obtain ⟨hp1,hp2⟩:=headP_is f0 (N:=(NF:Int)) (by omega) (by omega)
 obtain ⟨m,ok,hmo⟩:∃ m ok,headP f0 (NF:Int)=(m,ok):=⟨_,_,rfl⟩
 rw [hmo] at hp1 hp2 ⊢
 simp only at hp1 hp2 ⊢
 have HB2:=Lib.hid (below_then HBx.out hb2 HBx.out.size)
 have HS2:=Lib.hid (HSx.out.below hb2)
 have hX2:=HX2.out
 clear hb2 HBx HSx HBYx HX2 hmo
 cases ok with
 | false=>
  have HN:=Lib.hid (show X=none by rw [hX2,if_pos (Classical.not_not.1 fun h=>by have:=hp1.2 h;cases this)])
  clear hX2 hp1 hp2
  go_wp2
  go_ret2
  exact segNo HN.out HB2.out
 | true=>
  have hC:=hp1.1 rfl
  rw [if_neg hC] at hX2
  have hm:=hp2 rfl
  have ha0:0≤(headG f0).1:=(rInt_in ⟨f0,0,0⟩ (m:=1073741824) (by omega)).1
  have hb0:0≤(headG f0).2.1:=(rInt_in (rInt ⟨f0,0,0⟩ 1073741824).2 (m:=1073741824) (by omega)).1
  have hsum:(NF:Int)=(headG f0).1+(headG f0).2.1:=Classical.not_not.1 fun h=>hC (.inr (.inr h))
  obtain ⟨dn,rfl⟩:∃ d:Nat,m=d:=⟨m.toNat,by omega⟩
  obtain ⟨tn,htn⟩:∃ t,t=NF - dn:=⟨_,rfl⟩
  have hdn:dn≤NF:=by omega
  rw [← hm,Int.toNat_natCast,show (headG f0).2.1.toNat=tn by omega] at hX2
  have HX3:=Lib.hid hX2
  have HTN:=Lib.hid htn
  clear hX2 hC hm ha0 hb0 hsum hp1 hp2 htn
  have hsl1:∀ w,(Instr.slice 27 (.slice Af NF cf) none (some (.int .i64 dn)) none).run Tryz.prog w=.ok (.slice Af dn cf) w:=fun w=>rows_to w Af NF cf dn (by omega)
  go_wp2_with fail
  refine (spDocs_any x2 Af dn cf ((L.drop 1).take dn) L (HS2.out.upto dn hdn) (by omega) (fun x hx=>HLS.out x (List.mem_of_mem_drop (List.mem_of_mem_take hx))) (fun j hj=>by
   simp only [List.getD_eq_getElem?_getD,List.getElem?_take,if_pos hj,List.getElem?_drop])).mono ?_
  rintro e x3 ⟨vd,okd,rfl,hb3,hres⟩
  have HB3:=Lib.hid (below_then HB2.out hb3 HB2.out.size)
  have HS3:=Lib.hid (HS2.out.below hb3)
  clear hb3 hsl1
  have hs2:=HB2.out.size
  cases hdg:docsG L dn with
  | none=>
   rw [hdg] at hres
   simp only at hres
   subst hres
   have HN:=Lib.hid (show X=none by rw [HX3.out,hdg])
   clear hdg
   go_wp2
   go_ret2
   exact segNo HN.out HB3.out
  | some D=>
   rw [hdg] at hres
   simp only at hres
   obtain ⟨hok,Ad,cd,rfl,hdi,hdc,hdb⟩:=hres
   by_cases hR:docsR D
   case neg=>
    rw [decide_eq_false hR] at hok
    subst hok
    have HN:=Lib.hid (show X=none by rw [HX3.out,hdg];simp only;rw [if_neg hR])
    clear hdg hR hdi hdb
    go_wp2
    go_ret2
    exact segNo HN.out HB3.out
   rw [decide_eq_true hR] at hok
   subst hok
   have HX4:Hid (X=(termsG L dn tn).map fun T=>(D,T)):=Lib.hid (by rw [HX3.out,hdg];simp only;rw [if_pos hR])
   have HDI:=Lib.hid hdi
   have HDB:=Lib.hid hdb
   clear hdg hR hdi hdb HX3
   have hsl2:∀ w,(Instr.slice 27 (.slice Af NF cf) (some (.int .i64 dn)) none none).run Tryz.prog w=.ok (.slice (cutAddr Af dn cf) tn (cf - dn)) w:=fun w=>by
    rw [HTN.out]
    exact rows_from w Af NF cf dn (by omega)
   have hst:RowsSee x3 (cutAddr Af dn cf) tn ((L.drop 1).drop dn):=by
    rw [HTN.out]
    exact HS3.out.from_ hNFc dn hdn
   have HST:=Lib.hid hst
   have htn:tn≤1000000:=by have:=HTN.out;omega
   clear hst
   go_wp2_with fail
   refine (spTerms_any x3 (cutAddr Af dn cf) tn (cf - dn) dn ((L.drop 1).drop dn) L HST.out htn (fun x hx=>HLS.out x (List.mem_of_mem_drop (List.mem_of_mem_drop hx))) (fun j _=>by
    simp only [List.getD_eq_getElem?_getD,List.getElem?_drop,Nat.add_assoc])).mono ?_
   rintro e x4 ⟨vt,okt,rfl,hb4,hres⟩
   have HB4:=Lib.hid (below_then HB3.out hb4 HB3.out.size)
   have HD4:=Lib.hid (HDI.out.below hb4)
   have hs4:=hb4.size
   clear hb4 hsl2
   cases htg:termsG L dn tn with
   | none=>
    rw [htg] at hres
    simp only at hres
    subst hres
    have HN:=Lib.hid (show X=none by rw [HX4.out,htg];rfl)
    clear htg
    go_wp2
    go_ret2
    exact segNo HN.out HB4.out
   | some T=>
    rw [htg] at hres
    simp only at hres
    obtain ⟨rfl,mb,f,rfl,hmb,hbm,hsf⟩:=hres
    have HN:=Lib.hid (show X=some (D,T) by rw [HX4.out,htg];rfl)
    have HBM:=Lib.hid hbm
    have HSF:=Lib.hid hsf
    have hs3:=HB3.out.size
    clear htg hbm hsf
    go_wp2
    go_ret2
    obtain ⟨W,hW⟩:∃ z,z=x4.alloc (.cells #[.slice Ad D.length cd,.map (some mb)] 112):=⟨_,rfl⟩
    have hbW:Below x4.heap.size x4 W:=by rw [hW];exact (Below.refl _ _).alloc (Nat.le_refl _) _
    have hsW:W.heap.size=x4.heap.size+1:=by rw [hW];simp
    have hbl:Blk W x4.heap.size 112 #[.slice Ad D.length cd,.map (some mb)]:=by rw [hW];exact Blk.new _ _ _
    rw [← hW]
    have hs:=HB2.out.size
    refine ⟨below_then HB4.out hbW HB4.out.size,?_⟩
    rw [HN.out]
    have hmbl:=HBM.out.lt
    refine ⟨x4.heap.size,fun i=>w.heap.size≤i∧i < W.heap.size,rfl,⟨⟨by omega,by omega⟩,fun i hi=>hi.2,Ad,cd,mb,f,hbl,hdc,⟨HD4.out.below hbW,fun ad e h0=>by have:=HDB.out ad e h0;exact ⟨by omega,by omega⟩⟩,⟨by omega,by omega⟩,HBM.out.keep (hbW.block mb hmbl) (fun i hi=>hbW.block i hi.2) (fun i hi=>⟨⟨by omega,by omega⟩,by omega⟩) (by omega),HSF.out⟩,fun i hi=>hi.1⟩
end Go.Proofs.YthcjikpabpgpfaaGreat
