import Derived.Test.YthcjikpabpgpfaaGreatZp0
import Derived.Test.YthcjikpabpgpfaaGreatZp37
import Derived.Test.YthcjikpabpgpfaaGreatZp10
import Derived.Deep.RegionHeld3
import Derived.Test.YthcjikpabpgpfaaGreatZp38
import Derived.Test.YthcjikpabpgpfaaGreatZp9
set_option linter.unusedSimpArgs false
set_option maxHeartbeats 16000000
set_option maxRecDepth 100000
namespace Go.Proofs.YthcjikpabpgpfaaGreat
open Go.RowKit Go.Maps Go.WideMaps
theorem spNumber_any (w:World) (n:Nat) (hn:n < 18446744073709551616 / 2):
  Calls Tryz.prog 35 #[.int .i64 n] w fun e w'=>∃ v,e=.returned v∧w'.ownsRow w.heap.size 5 1 v (putL n).length ((putL n).map byteV)∧Below w.heap.size w w':=by
 have hwz:IntKind.u64.wrap (n:Int)=(n:Int):=by rw [IntKind.wrap_u64];omega
 go_enter Tryz.func35,Tryz.ntmps35
 go_wp2_with fail
 refine (lPut_any w n (by omega)).mono ?_
 rintro e w1 ⟨v,rfl,ho,hb⟩
 have HO:=Lib.hid ho
 have HB:=Lib.hid hb
 clear ho hb
 go_wp2
 go_ret
 exact ⟨v,rfl,HO.out,HB.out⟩
theorem spValid_any (w:World) (A:Option Addr) (n c:Nat) (l:List (Nm×Nm)) (h:DocsIn w A n l):
  Calls Tryz.prog 29 #[.slice A n c] w fun e w'=>e=.returned (.bool (decide (docsR l)))∧Below w.heap.size w w':=by
 have HL:=Lib.hid h
 have hlen:=h.len
 have hn63:=h.fit
 unfold maxLen at hn63
 obtain ⟨r,hr⟩:∃ r,r=decide (docsR l):=⟨_,rfl⟩
 rw [← hr]
 have HR:=Lib.hid hr
 have HLEN:=Lib.hid hlen
 clear h hr hlen
 go_enter Tryz.func29,Tryz.ntmps29
 by_cases h64:64 < n
 ·have d1:decide ((64:Int) < (n:Int))=true:=by simp;omega
  have HF:Hid (false=r):=Lib.hid (by rw [HR.out];exact (decide_eq_false (fun e=>by have:=e.1;have:=HLEN.out;omega)).symm)
  go_wp2
  go_ret
  exact ⟨congrArg (fun b=>Ending.returned (.bool b)) HF.out,Below.refl _ _⟩
 have d1:decide ((64:Int) < (n:Int))=false:=by simp;omega
 have hmm:=@run_makeMap Tryz.prog
 go_wp2
 clear hmm
 obtain ⟨W,hW⟩:∃ z,z=w.alloc (.map #[] 0):=⟨_,rfl⟩
 have hm0:W.ownsMap Tryz.prog 9 (unitElem (H:=Unit)) w.heap.size 0 (.map []):=by rw [hW];exact World.ownsMap_made w _ _ _
 have hb0:Below w.heap.size w W:=by rw [hW];exact (Below.refl _ w).alloc (Nat.le_refl _) _
 rw [← hW]
 have HM0:=Lib.hid hm0
 have HB0:=Lib.hid hb0
 clear hm0 hb0 hW
 go_loopw [12] (fun i wr=>∃ (k:Nat) (D:DataW Unit),k≤n∧i=.int .i64 k∧wr.ownsMap Tryz.prog 9 (unitElem (H:=Unit)) w.heap.size k D∧SetD D (skeysUp l k)∧Maps.size D=(skeysUp l k).length∧(∀ p∈l.take k,docOk p)∧Below w.heap.size w wr) (fun i _=>n - (intOf i).toNat)
 case atStart=>exact ⟨0,_,by omega,rfl,HM0.out,SetD.nil,rfl,by simp,HB0.out⟩
 case round=>
  obtain ⟨k,D,hk,rfl,hm,hs,hz,ho,hb⟩:=hrel
  have HM:=Lib.hid hm
  have HS:=Lib.hid hs
  have HZ:=Lib.hid hz
  have HO:=Lib.hid ho
  have HB:=Lib.hid hb
  have hsz:=hb.size
  clear hm hs hz ho hb
  rcases Nat.lt_or_ge k n with hlt | hge
  ·have d2:decide ((k:Int) < (n:Int))=true:=by simpa using hlt
   have p0:(0:Int)≤(k:Int):=by omega
   have p1:(k:Int) < (n:Int):=by omega
   obtain ⟨pa,p,rfl,hp,a0,a1,v1,v2⟩:=(HL.out.below HB.out).at k hlt
   obtain ⟨pk,pt⟩:=p
   simp only at a0 a1 v1 v2
   obtain ⟨N1,hN1⟩:∃ z,z=pk.length:=⟨_,rfl⟩
   obtain ⟨N2,hN2⟩:∃ z,z=pt.length:=⟨_,rfl⟩
   have z1:(⟨pk.toArray⟩:ByteArray).size=N1:=by rw [str_size,hN1]
   have z2:(⟨pt.toArray⟩:ByteArray).size=N2:=by rw [str_size,hN2]
   have HP:=Lib.hid hp
   have HN1:=Lib.hid hN1
   have HN2:=Lib.hid hN2
   have HV1:=Lib.hid v1
   obtain ⟨W1,hW1⟩:∃ z,z=wr.alloc (.cells #[.string ⟨pk.toArray⟩,.string ⟨pt.toArray⟩] 49):=⟨_,rfl⟩
   have hbl:Blk W1 wr.heap.size 49 #[.string ⟨pk.toArray⟩,.string ⟨pt.toArray⟩]:=by rw [hW1];exact Blk.new _ _ _
   have hb1:Below wr.heap.size wr W1:=by rw [hW1];exact (Below.refl _ wr).alloc (Nat.le_refl _) _
   obtain ⟨g,hg⟩:∃ g,g=wr.heap.size:=⟨_,rfl⟩
   have HW1:=Lib.hid hW1
   have HG:=Lib.hid hg
   have HB1:=Lib.hid (below_then HB.out hb1 hsz)
   have HBL:=Lib.hid hbl
   have HM1:=Lib.hid (show W1.ownsMap Tryz.prog 9 (unitElem (H:=Unit)) w.heap.size k D from by rw [hW1];exact HM.out.alloc _)
   have hBAD:¬ docOk (pk,pt)→false=r:=fun hb=>by rw [HR.out];exact (decide_eq_false (docsR_bad HP.out hb)).symm
   have HBAD:=Lib.hid hBAD
   have hin:k < n:=hlt
   clear hp hN1 hN2 v1 v2 hW1 hbl hb1 hg hBAD
   have hno:∀ u,Below w.heap.size w u→¬ docOk (pk,pt)→Ending.returned (.bool false)=.returned (.bool r)∧Below w.heap.size w u:=fun u hu hb=>⟨congrArg (fun b=>Ending.returned (.bool b)) (HBAD.out hb),hu⟩
   have HNO:=Lib.hid hno
   have hB1:=HB1.out
   rw [HW1.out] at hB1
   have HB2:=Lib.hid hB1
   clear hno hB1 hin
   by_cases q1:N1=0
   ·have e1:((N1:Int)==0)=true:=by simp;omega
    have HX:=Lib.hid (HNO.out _ HB2.out (fun h=>by have h1:=h.1;simp only at h1;have:=HN1.out;omega))
    clear q1
    go_wp2
    go_ret
    exact HX.out
   have e1:((N1:Int)==0)=false:=by simp;omega
   by_cases q2:32 < N1
   ·have e2:decide ((32:Int) < (N1:Int))=true:=by simp;omega
    have HX:=Lib.hid (HNO.out _ HB2.out (fun h=>by have h1:=h.2.1;simp only at h1;have:=HN1.out;omega))
    clear q1 q2
    go_wp2
    go_ret
    exact HX.out
   have e2:decide ((32:Int) < (N1:Int))=false:=by simp;omega
   by_cases q3:4096 < N2
   ·have e3:decide ((4096:Int) < (N2:Int))=true:=by simp;omega
    have HX:=Lib.hid (HNO.out _ HB2.out (fun h=>by have h1:=h.2.2;simp only at h1;have:=HN2.out;omega))
    clear q1 q2 q3
    go_wp2
    go_ret
    exact HX.out
   have e3:decide ((4096:Int) < (N2:Int))=false:=by simp;omega
   have HOK:Hid (docOk (pk,pt)):=Lib.hid (by refine ⟨?_,?_,?_⟩ <;> simp only <;> have:=HN1.out <;> have:=HN2.out <;> omega)
   obtain ⟨W2,hrun,hM2,hg2⟩:=HM1.out.update spStrLaw Tryz.underlying149 (show k < maxLen by unfold maxLen;omega) (val:=.agg #[]) (spStrKey HV1.out) unitElem_mk
   rw [HW1.out] at hrun
   have HM2:=Lib.hid hM2
   have HG2:=Lib.hid hg2
   clear hM2 hg2 q1 q2 q3
   go_wp2
   have hkd:l.getD k ([],[])=(pk,pt):=by rw [List.getD_eq_getElem?_getD,HP.out];rfl
   have hsn:=skeysUp_next l k
   rw [hkd] at hsn
   refine ⟨⟨k+1,_,by omega,by go_num,HM2.out,HS.out.put pk _ (fun s=>?_),?_,fun p hp=>?_,HB1.out.grown HG2.out HB1.out.size (fun g hg=>by cases hg;exact Nat.le_refl _)⟩,by simp [intOf];omega⟩
   ·rw [hsn]
    split
    ·rename_i hin
     exact ⟨.inl,fun h=>h.elim id (fun e=>e ▸ hin)⟩
    ·rw [List.mem_append,List.mem_singleton]
   ·rw [size_put (HM1.out.tidy spStrLaw),HS.out.has,HZ.out,hsn]
    by_cases hin:pk∈skeysUp l k
    ·simp only [hin,decide_true,if_true]
    ·simp only [hin,decide_false,if_false,List.length_append,List.length_singleton,Bool.false_eq_true]
   ·rw [List.take_add_one,HP.out] at hp
    rcases List.mem_append.1 hp with h1 | h1
    ·exact HO.out p h1
    ·simp at h1;rw [h1];exact HOK.out
  ·obtain rfl:k=n:=by omega
   have d2:decide ((k:Int) < (k:Int))=false:=by simp
   have hall:∀ p∈l,docOk p:=fun p hp=>HO.out p (by rw [List.take_of_length_le (by rw [HLEN.out];exact Nat.le_refl _)];exact hp)
   have hone:=keysUp_one (l:=l) (by rw [HLEN.out];omega) hall
   rw [HLEN.out] at hone
   have hlm:=HM.out.len Tryz.underlying149 3
   rw [HZ.out] at hlm
   obtain ⟨K,hK⟩:∃ K,K=(skeysUp l k).length:=⟨_,rfl⟩
   rw [← hK] at hlm hone
   have hfin:((K:Int)==(k:Int))=r:=by
    rw [HR.out,Bool.eq_iff_iff,decide_eq_true_iff,hone]
    simp only [beq_iff_eq]
    omega
   have HFIN:=Lib.hid hfin
   clear hall hone hK hfin
   go_wp2
   go_ret
   exact ⟨congrArg (fun b=>Ending.returned (.bool b)) HFIN.out,HB.out⟩
def RestOut (w:World) (q b:Nat) (g:Nat→Prop) (r:List UInt8×Rd) (bad:Bool) (e:Ending) (w':World):Prop:=
 ∃ v,e=.returned v∧w'.ownsRow w.heap.size 5 1 v r.1.length (r.1.map byteV)∧IsQ w' q b g r.2 bad∧Kept (fun i=>i=b) w w'
theorem spRest_any {w:World} {q b:Nat} {g:Nat→Prop} {s:Rd} {bad:Bool} (h:IsQ w q b g s bad):
  Calls Tryz.prog 106 #[.pointer (some ⟨q,0,none⟩)] w (RestOut w q b g (rBytes s (rLeft s)) bad):=by
 have H:=Lib.hid h
 have c0:=h.blk.cell 0
 simp only [lz0,lz1,lz2] at c0
 obtain ⟨L,hL⟩:∃ L,L=rLeft s:=⟨_,rfl⟩
 have hLm:L≤1099511627776:=by have h1:=h.rd.fit;have h2:=rLeft_le s;omega
 obtain ⟨r,hr⟩:∃ r,r=rBytes s (rLeft s):=⟨_,rfl⟩
 rw [← hr]
 rw [← hL] at hr
 have HL:=Lib.hid hL
 have HFIN:Hid (∀ (u u':World) (v:Value),(∃ n,u=w.drewN n)→u'.ownsRow u.heap.size 5 1 v (rBytes s L).1.length ((rBytes s L).1.map byteV)→IsR u' b g (rBytes s L).2→Kept (fun i=>i=b) u u'→RestOut w q b g r bad (.returned v) u'):=Lib.hid (fun u u' v hu ho hi hk=>by
  obtain ⟨n,rfl⟩:=hu
  rw [← hr] at ho hi
  have hk2:Kept (fun i=>i=b) w u':=((Kept.refl (fun i=>i=b) w).drewN n).trans hk (fun _ _ e=>e)
  exact ⟨v,rfl,ho,H.out.read hk2 hi,hk2⟩)
 have HC:Hid (w.cell? ⟨q,0,none⟩=some (.pointer (some ⟨b,0,none⟩))):=Lib.hid c0
 clear h hL hr c0
 go_enter Tryz.func106,Tryz.ntmps106
 go_wp2_with fail
 refine wp_region_held_drew (S:=fun w'=>w'.cell? ⟨q,0,none⟩=some (.pointer (some ⟨b,0,none⟩))) (by kernel_rfl) HC.out (fun hHeld=>?_)
 obtain ⟨u0,hu0⟩:∃ zz,zz=w.drew:=⟨_,rfl⟩
 rw [← hu0] at hHeld ⊢
 have HS0:u0.cell? ⟨q,0,none⟩=some (.pointer (some ⟨b,0,none⟩)):=by rw [hu0];exact HC.out
 have HU0:Hid (∃ n,u0=w.drewN n):=Lib.hid ⟨1,hu0⟩
 have HR0:Hid (IsR u0 b g s):=Lib.hid (by rw [hu0];exact H.out.rd.kept (F:=fun _=>False) (Kept.refl _ w).drew (fun h=>h) (fun _ _ h=>h))
 have HQ0:Hid (∀ u,Kept (fun i=>i=b) u0 u→u.cell? ⟨q,0,none⟩=some (.pointer (some ⟨b,0,none⟩))):=Lib.hid (fun u hk=>by
  have h1:=(H.out.blk.kept (F:=fun i=>i=b) ((Kept.refl (fun i=>i=b) w).drew.trans (by rw [← hu0];exact hk) (fun _ _ e=>e)) H.out.ne).cell 0
  simpa using h1)
 clear hu0
 refine wpAnyH_take (i:=0) (oi:=?oia10) (v:=?va10) ?hia10 (by kernel_rfl) (by kernel_rfl) (by kernel_rfl) ?hQa10 (Or.inl ⟨?hwa10,?hya10⟩) (by assumption) ?resta10
 case hia10=>(first | (simp only [lz0,lz1,lz2];rfl) | rfl)
 case hQa10=>exact fun _ _ _ h=>h
 case hwa10=>rfl
 case hya10=>((intro w hSw;go_simp);first | done | with_reducible rfl)
 try simp only [Act.put,lz3,lz4,lz5]
 refine wpAnyH_take (i:=4) (oi:=?oia24) (v:=?va24) ?hia24 (by kernel_rfl) (by kernel_rfl) (by kernel_rfl) ?hQa24 (Or.inl ⟨?hwa24,?hya24⟩) (by assumption) ?resta24
 case hia24=>(first | (simp only [lz0,lz1,lz2];rfl) | rfl)
 case hQa24=>exact fun _ _ _ h=>h
 case hwa24=>rfl
 case hya24=>((intro w hSw;go_simp);first | done | with_reducible rfl)
 try simp only [Act.put,lz3,lz4,lz5]
 refine wpAnyH_take (i:=1) (oi:=?oia31) (v:=?va31) ?hia31 (by kernel_rfl) (by kernel_rfl) (by kernel_rfl) ?hQa31 (Or.inl ⟨?hwa31,?hya31⟩) (by assumption) ?resta31
 case hia31=>(first | (simp only [lz0,lz1,lz2];rfl) | rfl)
 case hQa31=>exact fun _ _ _ h=>h
 case hwa31=>rfl
 case hya31=>((intro w hSw;go_simp);first | done | with_reducible rfl)
 try simp only [Act.put,lz3,lz4,lz5]
 refine wpAnyH_take (i:=5) (oi:=?oia45) (v:=?va45) ?hia45 (by kernel_rfl) (by kernel_rfl) (by kernel_rfl) ?hQa45 (Or.inl ⟨?hwa45,?hya45⟩) (by assumption) ?resta45
 case hia45=>(first | (simp only [lz0,lz1,lz2];rfl) | rfl)
 case hQa45=>exact fun _ _ _ h=>h
 case hwa45=>rfl
 case hya45=>((intro w hSw;go_simp);first | done | with_reducible rfl)
 try simp only [Act.put,lz3,lz4,lz5]
 refine wpAnyH_take (i:=2) (oi:=?oia52) (v:=?va52) ?hia52 (by kernel_rfl) (by kernel_rfl) (by kernel_rfl) ?hQa52 (Or.inl ⟨?hwa52,?hya52⟩) (by assumption) ?resta52
 case hia52=>(first | (simp only [lz0,lz1,lz2];rfl) | rfl)
 case hQa52=>exact fun _ _ _ h=>h
 case hwa52=>rfl
 case hya52=>((intro w hSw;go_simp);first | done | with_reducible rfl)
 try simp only [Act.put,lz3,lz4,lz5]
 refine wpAnyH_take (i:=6) (oi:=?oia66) (v:=?va66) ?hia66 (by kernel_rfl) (by kernel_rfl) (by kernel_rfl) ?hQa66 (Or.inl ⟨?hwa66,?hya66⟩) (by assumption) ?resta66
 case hia66=>(first | (simp only [lz0,lz1,lz2];rfl) | rfl)
 case hQa66=>exact fun _ _ _ h=>h
 case hwa66=>rfl
 case hya66=>((intro w hSw;go_simp);first | done | with_reducible rfl)
 try simp only [Act.put,lz3,lz4,lz5]
 refine wpAnyH_take (i:=3) (oi:=?oia73) (v:=?va73) ?hia73 (by kernel_rfl) (by kernel_rfl) (by kernel_rfl) ?hQa73 (Or.inl ⟨?hwa73,?hya73⟩) (by assumption) ?resta73
 case hia73=>(first | (simp only [lz0,lz1,lz2];rfl) | rfl)
 case hQa73=>exact fun _ _ _ h=>h
 case hwa73=>rfl
 case hya73=>((intro w hSw;go_simp);first | done | with_reducible rfl)
 try simp only [Act.put,lz3,lz4,lz5]
 refine wpAnyH_take (i:=7) (oi:=?oia87) (v:=?va87) ?hia87 (by kernel_rfl) (by kernel_rfl) (by kernel_rfl) ?hQa87 (Or.inl ⟨?hwa87,?hya87⟩) (by assumption) ?resta87
 case hia87=>(first | (simp only [lz0,lz1,lz2];rfl) | rfl)
 case hQa87=>exact fun _ _ _ h=>h
 case hwa87=>rfl
 case hya87=>((intro w hSw;go_simp);first | done | with_reducible rfl)
 try simp only [Act.put,lz3,lz4,lz5]
 refine wpAnyH_ready (rs:=[8]) (by kernel_rfl) (by simp) ?_
 refine AllReadyH.cons (o:=?oa9) ?ha9 ?sa9 AllReadyH.nil
 case ha9=>(simp only [lz0,lz1,lz2];rfl)
 case sa9=>
  intro K hK
  go_simp
  have HLF:=Lib.hid (lLeft_any u0 b g s HR0.out)
  rw [← HL.out] at HLF
  refine HLF.out.mono ?_
  rintro e u1 ⟨rfl,rfl⟩
  clear HLF
  go_wp2_with fail
  refine hK.out _ _ HS0 (fun ha10=>?_)
  clear hK K
  try simp only [Act.put,lz3,lz4,lz5]
  refine wpAnyH_ready (rs:=[9]) (by kernel_rfl) (by simp) ?_
  refine AllReadyH.cons (o:=?oa11) ?ha11 ?sa11 AllReadyH.nil
  case ha11=>(simp only [lz0,lz1,lz2];rfl)
  case sa11=>
   intro K hK
   go_simp
   refine (lBytes_any u1 b g s HR0.out (L:Int) (by omega) (by omega)).mono ?_
   rintro e u2 ⟨v,rfl,ho,hr,hk⟩
   have HO:=Lib.hid ho
   have HR2:=Lib.hid hr
   have HK:=Lib.hid hk
   clear ho hr hk
   go_wp2_with fail
   refine hK.out _ _ (HQ0.out u2 HK.out) (fun ha12=>?_)
   clear hK K
   try simp only [Act.put,lz3,lz4,lz5]
   refine wpAnyH_take (i:=10) (oi:=?oia1310) (v:=?va1310) ?hia1310 (by kernel_rfl) (by kernel_rfl) (by kernel_rfl) ?hQa1310 (Or.inl ⟨?hwa1310,?hya1310⟩) (by assumption) ?resta1310
   case hia1310=>(first | (simp only [lz0,lz1,lz2];rfl) | rfl)
   case hQa1310=>exact fun _ _ _ h=>h
   case hwa1310=>rfl
   case hya1310=>((intro w hSw;go_simp);first | done | with_reducible rfl)
   try simp only [Act.put,lz3,lz4,lz5]
   refine wpAnyH_done (by kernel_rfl) ?_ _
   go_wp2
   go_ret
   exact HFIN.out u1 u2 v HU0.out HO.out HR2.out HK.out
theorem spPosts_any (w:World) (A:Option Addr) (n c:Nat) (x:Nm) (h:BytesIn w A n x) (hc:n≤c) (hn:n≤1099511627776) (docs:Int):
  Calls Tryz.prog 107 #[.slice A n c,.int .i64 docs] w fun e w'=>e=.returned (.bool (decide ((getP x).2=0∧0 < (getP x).1.length∧lastP (getP x).1 < docs)))∧Below w.heap.size w w':=by
 have HG:=Lib.hid (gGet_any w A n c x h hc hn)
 obtain ⟨r,hr⟩:∃ r,r=decide ((getP x).2=0∧0 < (getP x).1.length∧lastP (getP x).1 < docs):=⟨_,rfl⟩
 rw [← hr]
 have hpl:(getP x).1.length≤4096:=getP_few _
 obtain ⟨P,E,hPE⟩:∃ P E,getP x=(P,E):=⟨_,_,rfl⟩
 rw [hPE] at hr HG hpl
 simp only at hr hpl
 have HR:=Lib.hid hr
 clear h hr hPE
 go_enter Tryz.func107,Tryz.ntmps107
 go_wp2_with fail
 refine HG.out.mono ?_
 rintro e w1 ⟨vp,rfl,hpo,hb⟩
 obtain ⟨Ap,cp,hvp⟩:∃ A c,vp=.slice A P.length c:=by
  obtain ⟨R,h1,h2,h3⟩:=hpo
  obtain ⟨A,c,e⟩:=own_slice h2
  exact ⟨A,c,e⟩
 subst hvp
 have HSEE:=Lib.hid (hpo.see rfl (by unfold maxLen;omega))
 have HB:=Lib.hid hb
 clear hpo hb HG
 simp only
 by_cases q1:E=0
 ·subst q1
  by_cases q2:P.length=0
  ·have d2:decide ((0:Int) < ((P.length:Nat):Int))=false:=decide_eq_false (by omega)
   have HF:Hid (false=r):=Lib.hid (by rw [HR.out];exact (decide_eq_false (fun h=>by have:=h.2.1;omega)).symm)
   obtain ⟨PL,hPL⟩:∃ PL,PL=P.length:=⟨_,rfl⟩
   rw [← hPL] at d2 ⊢
   have q0:¬ 0 < PL:=by omega
   have q1:¬ (0:Int) < (PL:Int):=by omega
   clear q2 hPL hpl
   go_wp2
   go_ret
   exact ⟨congrArg (fun b=>Ending.returned (.bool b)) HF.out,HB.out⟩
  obtain ⟨N1,hN1⟩:∃ N1,P.length=N1+1:=⟨P.length - 1,by omega⟩
  obtain ⟨ap,y,B2,c2,e1,hxx,-,hxc,-,-,-⟩:=HSEE.out.at N1 (by omega)
  subst e1
  obtain ⟨xd,hxd⟩:∃ xd,xd=y.1:=⟨_,rfl⟩
  have hlp:lastP P=xd:=by unfold lastP;rw [hN1,Nat.add_sub_cancel,List.getD_eq_getElem?_getD,hxx,hxd];rfl
  rw [← hxd] at hxc
  have hwn:IntKind.i64.wrap (((P.length:Nat):Int) - 1)=(N1:Int):=by rw [show ((P.length:Nat):Int) - 1=(N1:Int) by omega];exact IntWalk.i64_in _ (by omega)
  have r0:(0:Int)≤(N1:Int):=by omega
  have r1:(N1:Int) < ((P.length:Nat):Int):=by omega
  have d2:decide ((0:Int) < ((P.length:Nat):Int))=true:=decide_eq_true (by omega)
  have HF:Hid (decide (xd < docs)=r):=Lib.hid (by
   rw [HR.out,hlp]
   rw [Bool.eq_iff_iff,decide_eq_true_iff,decide_eq_true_iff]
   exact ⟨fun h=>⟨rfl,by omega,h⟩,fun h=>h.2.2⟩)
  obtain ⟨PL,hPL⟩:∃ PL,PL=P.length:=⟨_,rfl⟩
  rw [← hPL] at hwn r1 d2 ⊢
  clear q2 hxx hxd hlp hN1 hPL hpl
  go_wp2
  go_ret
  exact ⟨congrArg (fun b=>Ending.returned (.bool b)) HF.out,HB.out⟩
 ·have d1:(E==0)=false:=by simpa using q1
  have HF:Hid (false=r):=Lib.hid (by rw [HR.out];exact (decide_eq_false (fun h=>q1 h.1)).symm)
  clear q1
  go_wp2
  go_ret
  exact ⟨congrArg (fun b=>Ending.returned (.bool b)) HF.out,HB.out⟩
theorem spHead_any (w:World) (A:Option Addr) (n c:Nat) (f:Nm) (h:BytesIn w A n f) (hn:n≤1099511627776) (N:Nat) (hN:N≤1000000):
  Calls Tryz.prog 50 #[.slice A n c,.int .i64 N] w fun e w'=>e=.returned (.tuple #[.int .i64 (headP f N).1,.bool (headP f N).2])∧Below w.heap.size w w':=by
 have HI:=Lib.hid h
 obtain ⟨s0,hs0⟩:∃ s:Rd,s=⟨f,0,0⟩:=⟨_,rfl⟩
 obtain ⟨D,hD⟩:∃ D,D=(rInt s0 N).1:=⟨_,rfl⟩
 obtain ⟨s1,hs1⟩:∃ s,s=(rInt s0 N).2:=⟨_,rfl⟩
 obtain ⟨T,hT⟩:∃ T,T=(rInt s1 N).1:=⟨_,rfl⟩
 obtain ⟨s2,hs2⟩:∃ s,s=(rInt s1 N).2:=⟨_,rfl⟩
 have bD:=rInt_in s0 (m:=(N:Int)) (by omega)
 have bT:=rInt_in s1 (m:=(N:Int)) (by omega)
 rw [← hD] at bD
 rw [← hT] at bT
 have hH:headP f N=(D,decide (D+T=(N:Int)∧s2.e=0∧rLeft s2=0)):=by
  unfold headP
  rw [← hs0,← hD,← hs1,← hT,← hs2]
 rw [hH]
 have HS0:=Lib.hid hs0
 have HD:=Lib.hid hD
 have HS1:=Lib.hid hs1
 have HT:=Lib.hid hT
 have HS2:=Lib.hid hs2
 have hwz:IntKind.i64.wrap (D+T)=D+T:=IntWalk.i64_in _ (by omega)
 clear h hs0 hD hs1 hT hs2 hH
 go_enter Tryz.func50,Tryz.ntmps50
 go_wp2_with fail
 refine (spNew_any w A n c f HI.out hn).mono ?_
 rintro e w1 ⟨q,b,g,rfl,hq,hql,hbl,hb⟩
 rw [← HS0.out] at hq
 have HQ1:=Lib.hid hq
 have HB1:=Lib.hid hb
 have c1:=hq.blk.cell 0
 simp only [lz0,lz1,lz2] at c1
 clear hq hb
 go_wp2_with fail
 refine (lInt_any w1 b g s0 HQ1.out.rd (N:Int) (by omega) (by omega)).mono ?_
 rintro e w2 ⟨rfl,hr,hk⟩
 rw [← HS1.out] at hr
 rw [← HD.out]
 have HQ2:=Lib.hid (HQ1.out.read hk hr)
 have HB2:=Lib.hid (HB1.out.trans (hk.toBelow HB1.out.size (fun i hi=>by rw [hi];exact hbl)))
 have c2:=HQ2.out.blk.cell 0
 simp only [lz0,lz1,lz2] at c2
 clear hr hk c1
 go_wp2_with fail
 refine (lInt_any w2 b g s1 HQ2.out.rd (N:Int) (by omega) (by omega)).mono ?_
 rintro e w3 ⟨rfl,hr,hk⟩
 rw [← HS2.out] at hr
 rw [← HT.out]
 have HQ3:=Lib.hid (HQ2.out.read hk hr)
 have HB3:=Lib.hid (HB2.out.trans (hk.toBelow HB2.out.size (fun i hi=>by rw [hi];exact hbl)))
 clear hr hk c2
 obtain ⟨r,hr⟩:∃ r,(D+T==(N:Int))=r:=⟨_,rfl⟩
 have HR:=Lib.hid hr
 go_wp2_with fail
 clear hr
 refine (spWant_any HQ3.out r).mono ?_
 rintro e w4 ⟨rfl,hq,hk⟩
 have HQ4:=Lib.hid hq
 have HB4:=Lib.hid (HB3.out.trans (hk.toBelow HB3.out.size (fun i hi=>by rw [hi];exact hql)))
 clear hq hk
 have HISR:=Lib.hid (spIsRead_any HQ4.out)
 obtain ⟨R2,hR2⟩:∃ R2,R2=(!(false||!r)&&decide (s2.e=0∧rLeft s2=0)):=⟨_,rfl⟩
 rw [← hR2] at HISR
 have HR2:=Lib.hid hR2
 clear hR2
 go_wp2_with fail
 refine HISR.out.mono ?_
 rintro e w5 ⟨rfl,rfl⟩
 have hfin:R2=decide (D+T=(N:Int)∧s2.e=0∧rLeft s2=0):=by
  rw [HR2.out,← HR.out]
  by_cases h:D+T=(N:Int) <;> simp [h]
 have HFIN:=Lib.hid hfin
 clear hfin
 go_wp2
 go_ret2
 exact ⟨congrArg (fun b=>Ending.returned (.tuple #[.int .i64 D,.bool b])) HFIN.out,HB4.out⟩
def DocsOut (w:World) (r:Option (List (Nm×Nm))) (e:Ending) (w':World):Prop:=
 ∃ v ok,e=.returned (.tuple #[v,.bool ok])∧Below w.heap.size w w'∧match r with
  | none=>ok=false
  | some D=>ok=decide (docsR D)∧∃ A c,v=.slice A D.length c∧DocsIn w' A D.length D∧D.length≤c∧∀ ad,A=some ad→0 < D.length→w.heap.size≤ad.block∧ad.block < w'.heap.size
theorem spDocs_any (w:World) (A:Option Addr) (n c:Nat) (L l:List Nm) (h:RowsSee w A n L) (hn:n≤1000000) (hs:∀ x∈L,x.length≤262144) (hl:∀ j,j < n→l.getD (1+j) []=L.getD j []):
  Calls Tryz.prog 51 #[.slice A n c] w (DocsOut w (docsG l n)):=by
 obtain ⟨i1,hi1,hy0,hy1,hy2⟩:=info_parts docInfoL
 obtain ⟨R,hR⟩:∃ R,R=docsG l n:=⟨_,rfl⟩
 rw [← hR]
 have HR:=Lib.hid hR
 have HL:=Lib.hid h
 have HS:=Lib.hid hs
 have HLL:=Lib.hid hl
 have HSM:Hid (∀ k D,docsG l k=some D→k≤n→∀ p∈D,p.1.length≤262144∧p.2.length≤262144):=Lib.hid (fun k=>by
  induction k with
  | zero=>intro D hd _ p hp;simp [docsG] at hd;subst hd;simp at hp
  | succ k ih=>
   intro D hd hk p hp
   simp only [docsG] at hd
   split at hd
   ·cases hd
   ·rename_i D0 h0
    split at hd
    ·cases hd
    ·cases hd
     rcases List.mem_append.1 hp with hp | hp
     ·exact ih D0 h0 (by omega) p hp
     ·rw [List.mem_singleton.1 hp]
      have h1:=docG_small (l.getD (1+k) [])
      have h2:(l.getD (1+k) []).length≤262144:=by
       rw [hl k (by omega),List.getD_eq_getElem?_getD]
       cases hx:L[k]? with
       | none=>simp
       | some x=>exact hs x (List.mem_of_getElem? hx)
      omega)
 clear h hs hl hR
 go_enter Tryz.func51,Tryz.ntmps51
 go_wp2
 go_loopw [4,12] (fun v i wr=>∃ (k:Nat) (D:List (Nm×Nm)),k≤n∧i=.int .i64 k∧docsG l k=some D∧wr.ownsRow w.heap.size 49 2 v D.length (D.flatMap docVs)∧Below w.heap.size w wr) (fun _ i _=>n - (intOf i).toNat)
 case atStart=>exact ⟨0,[],by omega,rfl,rfl,World.ownsRow_nil _ _ _ _,Below.refl _ _⟩
 case round=>
  obtain ⟨k,D,hk,rfl,hd,ho,hb⟩:=hrel
  obtain ⟨Ad,cd,hvd⟩:=own_slice ho
  subst hvd
  have HDG:=Lib.hid hd
  have HO:=Lib.hid ho
  have HB:=Lib.hid hb
  have hsz:=hb.size
  have hdl:=docsG_len hd
  have hdm:D.length≤1000000:=by omega
  have HDL:=Lib.hid hdl
  clear hd ho hb hdl
  rcases Nat.lt_or_ge k n with hlt | hge
  ·have d2:decide ((k:Int) < (n:Int))=true:=by simpa using hlt
   have p0:(0:Int)≤(k:Int):=by omega
   have p1:(k:Int) < (n:Int):=by omega
   obtain ⟨f,hf⟩:∃ f,L[k]?=some f:=⟨_,List.getElem?_eq_getElem (by have:=HL.out.len;omega)⟩
   have hfs:=HS.out f (List.mem_of_getElem? hf)
   obtain ⟨ad,B1,c1,rfl,hcell,hcc,hB1⟩:=(HL.out.below HB.out).at_ k f hf
   have HF:=Lib.hid (show l.getD (1+k) []=f by rw [HLL.out k hlt,List.getD_eq_getElem?_getD,hf];rfl)
   have HBY:=Lib.hid hB1
   clear hf hB1
   go_wp2_with fail
   refine (spNew_any wr B1 f.length c1 f HBY.out (by omega)).mono ?_
   rintro e v1 ⟨q,b,g,rfl,hq,hql,hbl,hb1⟩
   have HQ1:=Lib.hid hq
   have HW1:=Lib.hid hb1
   have y1:=hq.blk.cell 0
   simp only [lz0,lz1,lz2] at y1
   clear hq hb1 hcell hcc HBY
   go_wp2_with fail
   refine (lText_any v1 b g ⟨f,0,0⟩ HQ1.out.rd 32 (by omega) (by omega)).mono ?_
   rintro e v2 ⟨vk,rfl,hok,hr2,hk2⟩
   obtain ⟨KY,hK⟩:∃ KY,KY=(rText ⟨f,0,0⟩ 32).1:=⟨_,rfl⟩
   obtain ⟨s1,hs1e⟩:∃ s,s=(rText ⟨f,0,0⟩ 32).2:=⟨_,rfl⟩
   have hKl:KY.length≤262144:=by
    have h1:=(docG_small f).1
    rw [hK]
    exact Nat.le_trans h1 hfs
   have hok1:s1.Ok:=by rw [hs1e];exact (rText_ok (s:=⟨f,0,0⟩) ⟨Nat.zero_le _⟩ 32).1
   rw [← hK] at hok
   rw [← hs1e] at hr2
   have HQ2:=Lib.hid (HQ1.out.read hk2 hr2)
   have HW2:=Lib.hid (HW1.out.trans (hk2.toBelow HW1.out.size (fun i hi=>by rw [hi];exact hbl)))
   have HOK:=Lib.hid hok
   have HK':=Lib.hid hK
   have HS1e:=Lib.hid hs1e
   have HOK1:=Lib.hid hok1
   have hv12:=hk2.size
   have HV1:=HW1.out.size
   obtain ⟨Ak,ck,rfl⟩:=own_slice hok
   clear hok hr2 hk2 hK hs1e hok1 y1
   go_wp2_with fail
   refine (spRest_any HQ2.out).mono ?_
   rintro e v3 ⟨vx,rfl,hox,hq3,hk3⟩
   obtain ⟨Tx,hTx⟩:∃ T,T=(rBytes s1 (rLeft s1)).1:=⟨_,rfl⟩
   obtain ⟨s2,hs2e⟩:∃ s,s=(rBytes s1 (rLeft s1)).2:=⟨_,rfl⟩
   have HDOC:Hid (docG f=((KY,Tx),s2.e)):=Lib.hid (by
    unfold docG
    rw [← HK'.out,← HS1e.out,← hTx,← hs2e])
   have hTl:Tx.length≤262144:=by
    have h1:=(docG_small f).2
    rw [HDOC.out] at h1
    exact Nat.le_trans h1 hfs
   have HEND:Hid (decide (s2.e=0∧rLeft s2=0)=decide (s2.e=0)):=Lib.hid (by
    rw [Bool.eq_iff_iff,decide_eq_true_iff,decide_eq_true_iff]
    exact ⟨fun h=>h.1,fun h=>⟨h,by rw [hs2e] at h ⊢;exact rRest_left HOK1.out h⟩⟩)
   rw [← hTx] at hox
   rw [← hs2e] at hq3
   obtain ⟨Ax,cx,rfl⟩:=own_slice hox
   have HW3:=Lib.hid (HW2.out.trans (hk3.toBelow HW2.out.size (fun i hi=>by rw [hi];exact hbl)))
   have HIK:Hid (BytesIn v3 Ak KY.length KY):=Lib.hid (BytesIn.own (ownsRow_block HOK.out fun i hi=>hk3.block i (HOK.out.lt i hi).2 (fun e=>by have h1:=(HOK.out.lt i hi).1;have h2:b < v1.heap.size:=(by obtain ⟨A,c,h1,_⟩:=HQ1.out.rd.at_;exact h1.lt);omega)) (by unfold maxLen;omega))
   have HIX:Hid (BytesIn v3 Ax Tx.length Tx):=Lib.hid (BytesIn.own hox (by unfold maxLen;omega))
   have HISR:=Lib.hid (spIsRead_any hq3)
   rw [HEND.out] at HISR
   have HB3:=Lib.hid (HB.out.trans (HW3.out.mono hsz))
   clear hox hq3 hk3 hTx hs2e HOK HQ2 HQ1 HK' HS1e HOK1 HEND
   go_wp2_with fail
   refine HISR.out.mono ?_
   rintro e v4 ⟨rfl,rfl⟩
   by_cases he:s2.e=0
   case neg=>
    have HN:Hid (R=none):=Lib.hid (by
     rw [HR.out]
     refine docsG_none (i:=k+1) ?_ (by omega)
     simp only [docsG]
     rw [HDG.out]
     simp only
     rw [HF.out,HDOC.out,if_pos he])
    rw [decide_eq_false he]
    clear he
    go_wp2
    go_ret2
    refine ⟨_,_,rfl,HB3.out,?_⟩
    rw [HN.out]
   rw [decide_eq_true he]
   have HE:=Lib.hid he
   have g1:∀ u:World,u=v4→(convert 24 9 (.slice Ak KY.length ck)).run Tryz.prog u=.ok (.string ⟨KY.toArray⟩) u:=fun u hu=>by rw [hu];exact str_of HIK.out ck
   have g2:∀ u:World,u=v4→(convert 24 9 (.slice Ax Tx.length cx)).run Tryz.prog u=.ok (.string ⟨Tx.toArray⟩) u:=fun u hu=>by rw [hu];exact str_of HIX.out cx
   have g1':=g1 v4 rfl
   have g2':=g2 v4 rfl
   clear he g1 g2
   obtain ⟨W5,hW5⟩:∃ z,z=v4.alloc (.cells #[.string ⟨KY.toArray⟩,.string ⟨Tx.toArray⟩] 49):=⟨_,rfl⟩
   have hb5:Below v4.heap.size v4 W5:=by rw [hW5];exact (Below.refl _ _).alloc (Nat.le_refl _) _
   have HM5:Hid (Blk W5 v4.heap.size 49 #[.string ⟨KY.toArray⟩,.string ⟨Tx.toArray⟩]):=Lib.hid (by rw [hW5];exact Blk.new _ _ _)
   have HB5:=Lib.hid (below_then HB3.out hb5 HB3.out.size)
   have HO5:=Lib.hid (ownsRow_block HO.out fun i hi=>(HW3.out.trans (hb5.mono HW3.out.size)).block i (HO.out.lt i hi).2)
   have hs5:=HB5.out.size
   have HW5:=Lib.hid hW5
   clear hb5 hW5
   go_wp2_with (at_builtin;rw [← HW5.out];refine wpList_append_own_at _ rfl (.tmp 28) (.tmp 34) 23 rfl w.heap.size 49 i1 _ 2 32 Tryz.underlying23 hi1 hy0 hy1 hy2 rfl (by decide) (.slice Ad D.length cd) D.length (D.flatMap docVs) rfl HO5.out ⟨v4.heap.size,0,none⟩ 1 1 (docVs (KY,Tx)) rfl rfl (docs_cells1 HM5.out) (docs_one1 (KY,Tx)) (by unfold maxLen;omega) (by omega) hs5 ?_;intro v6 w6 hown hgrow _ _;have HO6:=Lib.hid hown;have HB6:=Lib.hid (HB5.out.grown hgrow hs5 (fun g hg=>(HO5.out.lt g hg).1));clear hown hgrow)
   refine ⟨⟨k+1,D++[(KY,Tx)],by omega,by go_num,?_,?_,HB6.out⟩,by simp [intOf];omega⟩
   ·simp only [docsG]
    rw [HDG.out]
    simp only
    rw [HF.out,HDOC.out,if_neg (by simp [HE.out])]
   ·rw [List.length_append,List.flatMap_append,List.flatMap_singleton]
    exact HO6.out
  ·obtain rfl:k=n:=by omega
   have d2:decide ((k:Int) < (k:Int))=false:=by simp
   have hDI:=DocsIn.ofRow HO.out rfl (by unfold maxLen;omega) (fun p hp=>by have:=HSM.out k D HDG.out (Nat.le_refl _) p hp;unfold maxLen;omega)
   have HDI:=Lib.hid hDI
   have HCAP:=Lib.hid (rowCap_le HO.out)
   clear hDI
   go_wp2_with fail
   refine (spValid_any wr Ad D.length cd D HDI.out).mono ?_
   rintro e x1 ⟨rfl,hbx⟩
   have HBX:=Lib.hid (HB.out.trans (hbx.mono hsz))
   have HDX:=Lib.hid (HDI.out.below hbx)
   have hsx:=hbx.size
   clear hbx
   go_wp2
   go_ret2
   refine ⟨_,_,rfl,HBX.out,?_⟩
   rw [HR.out,HDG.out]
   exact ⟨rfl,Ad,cd,rfl,HDX.out,HCAP.out,fun ad e _=>by have:=HO.out.lt ad.block (by rw [e];rfl);omega⟩
end Go.Proofs.YthcjikpabpgpfaaGreat
