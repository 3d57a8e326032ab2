import Derived.Test.YthcjikpabpgpfaaGreatZp0
import Derived.Test.YthcjikpabpgpfaaGreatZp33
import Derived.Test.YthcjikpabpgpfaaGreatZp40
import Derived.Test.YthcjikpabpgpfaaGreatZp45
import Derived.Test.YthcjikpabpgpfaaGreatZp17
import Derived.Test.YthcjikpabpgpfaaGreatZp19
import Derived.Test.YthcjikpabpgpfaaGreatZp34
import Derived.Deep.RegionHeld3
import Derived.Test.YthcjikpabpgpfaaGreatZp37
import Derived.Test.YthcjikpabpgpfaaGreatZp42
import Derived.Test.YthcjikpabpgpfaaGreatZp26
set_option linter.unusedSimpArgs false
set_option maxHeartbeats 16000000
set_option maxRecDepth 100000
namespace Go.Proofs.YthcjikpabpgpfaaGreat
open Go.RowKit Go.Maps Go.WideMaps
theorem s0Build_nil (w:World) (A:Option Addr) (n c:Nat):Calls Tryz.prog 12 #[.pointer none,.slice A n c] w fun e w'=>e=.returned (.tuple #[.slice none 0 0,.int .i64 1])∧Below w.heap.size w w':=by
 go_enter Tryz.func12,Tryz.ntmps12
 go_wp2
 go_ret2
 exact ⟨rfl,Below.refl _ _⟩
theorem s0Build_no (w:World) (b:Nat) (A:Option Addr) (n c:Nat) (l:List (Nm×Nm)) (hl:DocsIn w A n l) (hR:¬ docsR l):Calls Tryz.prog 12 #[.pointer (some ⟨b,0,none⟩),.slice A n c] w fun e w'=>e=.returned (.tuple #[.slice none 0 0,.int .i64 1])∧Below w.heap.size w w':=by
 have HL:=Lib.hid hl
 have HR:=Lib.hid hR
 clear hl hR
 go_enter Tryz.func12,Tryz.ntmps12
 go_wp2_with fail
 refine (spValid_any w A n c l HL.out).mono ?_
 rintro e w1 ⟨rfl,hb1⟩
 rw [decide_eq_false HR.out]
 have HB1:=Lib.hid hb1
 clear hb1
 go_wp2
 go_ret2
 exact ⟨rfl,HB1.out⟩
theorem sflat2 (a b:Nm):[a,b].flatten=a++b:=by simp
theorem sflat3 (a b c:Nm):[a,b,c].flatten=a++b++c:=by simp
theorem s0Build_any {w:World} {b:Nat} {V:Voc} (hC:Coder w b V) (hO:VOk V) (A:Option Addr) (n c:Nat) (l:List (Nm×Nm)) (hl:DocsIn w A n l) (hR:docsR l) (ht:textN l≤4000):
  Calls Tryz.prog 12 #[.pointer (some ⟨b,0,none⟩),.slice A n c] w (SegOut w V l):=by
 unfold SegOut
 simp only [if_pos hR]
 have HC:=Lib.hid hC
 have HO:=Lib.hid hO
 have HL:=Lib.hid hl
 have HR:=Lib.hid hR
 have HN:=Lib.hid hl.len
 have hn64:n≤64:=by have:=hR.1;rw [hl.len] at this;exact this
 obtain ⟨L,hL⟩:∃ L,L=docsM V l:=⟨_,rfl⟩
 have HMW:Hid (MWF L):=Lib.hid (by rw [hL];exact docsM_wf hO hR)
 have htot:totT L≤4000:=by rw [hL];exact Nat.le_trans (docsM_tot hO hR) ht
 have HSEG:Hid (segB V l=headF n (mTerms L).length++l.flatMap docF++(mTerms L).flatMap (termF L)):=Lib.hid (by unfold segB;rw [segM_all hO hR,← hL,hl.len])
 have HLE:=Lib.hid hL
 clear hC hO hl hR hL
 go_enter Tryz.func12,Tryz.ntmps12
 go_wp2_with fail
 refine (spValid_any w A n c l HL.out).mono ?_
 rintro e w1 ⟨rfl,hb1⟩
 rw [decide_eq_true HR.out]
 have HB1:=Lib.hid hb1
 have HC1:=Lib.hid (HC.out.below hb1)
 have HL1:=Lib.hid (HL.out.below hb1)
 clear hb1
 go_wp2_with fail
 refine (spGather_any HC1.out HO.out A n c l HL1.out HR.out ht).mono ?_
 rintro e w2 ⟨m,F,rfl,hm,hf,hb2⟩
 rw [← HLE.out] at hm
 have HM2:=Lib.hid hm
 have HB2:=Lib.hid (below_then HB1.out hb2 HB1.out.size)
 have HL2:=Lib.hid (HL1.out.below hb2)
 clear hm hf hb2 HC HC1 HL HL1
 go_wp2_with fail
 refine (m0Terms_any HM2.out HMW.out (by omega)).mono ?_
 rintro e w3 ⟨At,ct,rfl,hit,hct,hb3⟩
 obtain ⟨tl,htl⟩:∃ tl,tl=(mTerms L).length:=⟨_,rfl⟩
 have htm:tl≤4000:=by rw [htl];exact Nat.le_trans (terms_len L) htot
 rw [← htl] at hit ⊢
 have HIT:=Lib.hid hit
 have HTL:=Lib.hid htl
 have HM3:=Lib.hid (HM2.out.keep (w':=w3) (fun i hi=>hb3.block i (HM2.out.2.1 i hi)) hb3.size)
 have HL3:=Lib.hid (HL2.out.below hb3)
 have HB3:=Lib.hid (below_then HB2.out hb3 HB2.out.size)
 have hs3:=HB3.out.size
 clear hit hb3 htl HM2 HL2 hct
 obtain ⟨W4,hW4⟩:∃ z,z=w3.alloc (.cells #[.slice none 0 0] 24):=⟨_,rfl⟩
 have hb4:Below w3.heap.size w3 W4:=by rw [hW4];exact (Below.refl _ w3).alloc (Nat.le_refl _) _
 have hV4:Blk W4 w3.heap.size 24 #[.slice none 0 0]:=by rw [hW4];exact Blk.new _ _ _
 have hs4:W4.heap.size=w3.heap.size+1:=by rw [hW4];simp
 have HW4:=Lib.hid hW4
 have HB4:=Lib.hid hb4
 have HV4:=Lib.hid hV4
 clear hb4 hV4 hW4
 go_wp2_with fail
 rw [← HW4.out]
 refine (spNumber_any W4 n (by omega)).mono ?_
 rintro e w5 ⟨v5,rfl,ho5,hb5⟩
 obtain ⟨A5,c5,rfl,hc5⟩:=own_cap ho5
 have hp5:=putL_len n (by omega)
 have HI5:Hid (BytesIn w5 A5 (putL n).length (putL n)):=Lib.hid (BytesIn.own ho5 (by unfold maxLen;omega))
 have HB5:=Lib.hid hb5
 have hs5:=hb5.size
 clear ho5 hb5
 go_wp2_with fail
 refine (spNumber_any w5 tl (by omega)).mono ?_
 rintro e w6 ⟨v6,rfl,ho6,hb6⟩
 obtain ⟨A6,c6,rfl,hc6⟩:=own_cap ho6
 have hp6:=putL_len tl (by omega)
 have HI6:Hid (BytesIn w6 A6 (putL tl).length (putL tl)):=Lib.hid (BytesIn.own ho6 (by unfold maxLen;omega))
 have HI56:=Lib.hid (HI5.out.below hb6)
 have HB6:=Lib.hid (below_then HB5.out hb6 hs5)
 have hs6:=hb6.size
 clear ho6 hb6 HI5 HB5
 have HR7:=Lib.hid (rows2 w6 A5 A6 c5 c6 (putL n) (putL tl) HI56.out HI6.out hc5 hc6)
 have hb7:Below w6.heap.size w6 (w6.alloc (.cells #[.slice A5 (putL n).length c5,.slice A6 (putL tl).length c6] 24)):=(Below.refl _ _).alloc (Nat.le_refl _) _
 have HB7:=Lib.hid (below_then HB6.out hb7 HB6.out.size)
 obtain ⟨W7,hW7⟩:∃ z,z=w6.alloc (.cells #[.slice A5 (putL n).length c5,.slice A6 (putL tl).length c6] 24):=⟨_,rfl⟩
 rw [← hW7] at HR7 HB7
 have HW7:=Lib.hid hW7
 have hs7:=HB7.out.size
 clear hb7 hW7 HI6 HI56 HB6
 have hfl:[putL n,putL tl].flatten=putL n++putL tl:=sflat2 _ _
 have hpl:(putL n++putL tl).length≤40∧0 < (putL n++putL tl).length:=by
  have:=putL_pos n;rw [List.length_append];omega
 go_wp2_with fail
 rw [← HW7.out]
 refine (spPut_any W7 w3.heap.size (w3.heap.size+1) (.slice none 0 0) [] (HV4.out.below HB7.out HV4.out.lt) (World.ownsRow_nil _ _ _ _) (by omega) (by omega) _ 2 2 [putL n,putL tl] HR7.out (by omega) (by rw [hfl];omega) (by rw [hfl];omega) (by simp)).mono ?_
 rintro e w8 ⟨rfl,v8,hV8,hO8,hk8⟩
 rw [List.nil_append,hfl] at hO8
 obtain ⟨H,hH⟩:∃ H,H=headF n tl:=⟨_,rfl⟩
 have hO8:w8.ownsRow (w3.heap.size+1) 5 1 v8 H.length (H.map byteV):=by rw [hH];exact hO8
 have hHl:H.length≤60:=by
  have h1:=putF_le (b:=putL n++putL tl) (by omega)
  rw [hH]
  unfold headF
  omega
 have HB8:Hid (Below w3.heap.size w3 w8):=Lib.hid ((below_then HB4.out HB7.out (by omega)).trans (hk8.toBelow (by omega) (fun i hi=>by
  rcases hi with hi | hi
  ·omega
  ·cases hi)))
 have HV8:=Lib.hid hV8
 have HO8:=Lib.hid hO8
 have HH:=Lib.hid hH
 have hs8:=hk8.size
 clear hV8 hO8 hk8 hH hfl hpl HR7 HB7 HW7 HW4 HV4 HB4
 go_wp2
 go_loopw [40] (fun i wr=>∃ (k:Nat) (v:Value),k≤n∧i=.int .i64 k∧Blk wr w3.heap.size 24 #[v]∧wr.ownsRow (w3.heap.size+1) 5 1 v (H++(l.take k).flatMap docF).length ((H++(l.take k).flatMap docF).map byteV)∧w3.heap.size+1≤wr.heap.size∧Below w3.heap.size w3 wr) (fun i _=>n - (intOf i).toNat)
 case atStart=>exact ⟨0,v8,by omega,rfl,HV8.out,by simpa using HO8.out,by omega,HB8.out⟩
 case round=>
  clear HV8 HO8 HB8
  obtain ⟨k,v,hk,rfl,hv,ho,hsz,hb⟩:=hrel
  obtain ⟨Q,hQ⟩:∃ Q,Q=H++(l.take k).flatMap docF:=⟨_,rfl⟩
  rw [← hQ] at ho
  have hQl:Q.length≤268860:=by
   have h1:=flat_le docF 4200 (l.take k) (fun x hx=>docF_le (HR.out.2.1 x (List.mem_of_mem_take hx)))
   have h2:(l.take k).length≤64:=by rw [List.length_take];omega
   rw [hQ,List.length_append]
   have:=Nat.mul_le_mul_right 4200 h2
   omega
  have HQ:=Lib.hid hQ
  have HV:=Lib.hid hv
  have HOW:=Lib.hid ho
  have HBW:=Lib.hid hb
  clear hv ho hb hQ
  rcases Nat.lt_or_ge k n with hlt | hge
  ·have d2:decide ((k:Int) < (n:Int))=true:=by simpa using hlt
   have p0:(0:Int)≤(k:Int):=by omega
   have p1:(k:Int) < (n:Int):=by omega
   obtain ⟨pa,p,rfl,hp,a0,a1,-,-⟩:=(HL3.out.below HBW.out).at k hlt
   have hdk:=HR.out.2.1 p (List.mem_of_getElem? hp)
   obtain ⟨pk,pt⟩:=p
   simp only at a0 a1
   have hk1:pk.length≤32:=hdk.2.1
   have hk2:pt.length≤4096:=hdk.2.2
   have z1:=str_size pk
   have HP:=Lib.hid hp
   have hp3:=putL_len pk.length (by omega)
   obtain ⟨W1,hW1⟩:∃ z,z=wr.alloc (.cells #[.string ⟨pk.toArray⟩,.string ⟨pt.toArray⟩] 49):=⟨_,rfl⟩
   obtain ⟨g,hg⟩:∃ z,z=wr.heap.size:=⟨_,rfl⟩
   have hbl:Blk W1 g 49 #[.string ⟨pk.toArray⟩,.string ⟨pt.toArray⟩]:=by rw [hW1,hg];exact Blk.new _ _ _
   have hb1:Below wr.heap.size wr W1:=by rw [hW1];exact (Below.refl _ wr).alloc (Nat.le_refl _) _
   have HV1:=Lib.hid (HV.out.below hb1 HV.out.lt)
   have HO1:Hid (W1.ownsRow (w3.heap.size+1) 5 1 v Q.length (Q.map byteV)):=Lib.hid (ownsRow_block HOW.out fun g hg=>hb1.block g (HOW.out.lt g hg).2)
   have HVG:Hid (∀ i,v.ownBlock=some i→i < g):=Lib.hid (fun i hi=>by rw [hg];exact (HOW.out.lt i hi).2)
   have HB1W:=Lib.hid (HBW.out.trans (hb1.mono HBW.out.size))
   have hs1W:=hb1.size
   have HCE:Hid (∀ u,Kept (fun i=>i=w3.heap.size∨v.ownBlock=some i) W1 u→u.cell? ⟨g,0,none⟩=some (.string ⟨pk.toArray⟩)∧u.cell? ⟨g,1,none⟩=some (.string ⟨pt.toArray⟩)):=Lib.hid (fun u hu=>by
    have h1:=hbl.kept hu (fun h=>by
     rcases h with h | h
     ·omega
     ·have:=HVG.out g h;omega)
    have c0:=h1.cell 0
    have c1:=h1.cell 1
    simp only [lz0,lz1,lz2] at c0 c1
    exact ⟨c0,c1⟩)
   have hfl:[putL pk.length,pk,pt].flatten=putL pk.length++pk++pt:=sflat3 _ _ _
   have hpl:(putL pk.length++pk++pt).length≤5000∧0 < (putL pk.length++pk++pt).length:=by
    have:=putL_pos pk.length;simp only [List.length_append];omega
   have HFIN:Hid (∀ (u:World) (v2:Value),Blk u w3.heap.size 24 #[v2]→u.ownsRow (w3.heap.size+1) 5 1 v2 (Q++putF [putL pk.length,pk,pt].flatten).length ((Q++putF [putL pk.length,pk,pt].flatten).map byteV)→Kept (fun i=>i=w3.heap.size∨v.ownBlock=some i) W1 u→Blk u w3.heap.size 24 #[v2]∧u.ownsRow (w3.heap.size+1) 5 1 v2 (H++(l.take (k+1)).flatMap docF).length ((H++(l.take (k+1)).flatMap docF).map byteV)∧w3.heap.size+1≤u.heap.size∧Below w3.heap.size w3 u):=Lib.hid (fun u v2 h1 h2 h3=>by
    refine ⟨h1,?_,by have:=h3.size;omega,HB1W.out.trans (h3.toBelow (by omega) (fun i hi=>by
     rcases hi with hi | hi
     ·omega
     ·have:=(HO1.out.lt i hi).1;omega))⟩
    rw [flat_take docF HP.out,← List.append_assoc,← HQ.out]
    rw [hfl] at h2
    exact h2)
   have hgw:w3.heap.size+1≤g:=by omega
   have HW1:=Lib.hid hW1
   have HGE:=Lib.hid hg
   clear hp hdk hW1 hg hbl hb1
   go_wp2_with fail
   rw [← HGE.out,← HW1.out]
   refine wp_region_held_drew (S:=fun u=>u.cell? ⟨g,0,none⟩=some (.string ⟨pk.toArray⟩)∧u.cell? ⟨g,1,none⟩=some (.string ⟨pt.toArray⟩)) (by kernel_rfl) ?_ (fun hHeld=>?_)
   ·exact HCE.out _ (Kept.refl _ W1).drew
   obtain ⟨u0,hu0⟩:∃ zz,zz=W1.drew:=⟨_,rfl⟩
   rw [← hu0] at hHeld ⊢
   have HB0:Hid (Below W1.heap.size W1 u0):=Lib.hid (by rw [hu0];exact (Below.refl _ W1).drew)
   clear hu0 a0 a1
   refine wpAnyH_take (i:=0) (oi:=?oir10) (v:=?vr10) ?hir10 (by kernel_rfl) (by kernel_rfl) (by kernel_rfl) ?hQr10 (Or.inl ⟨?hwr10,?hyr10⟩) (by assumption) ?restr10
   case hir10=>(first | (simp only [lz0,lz1,lz2];rfl) | rfl)
   case hQr10=>exact fun _ _ _ h=>h
   case hwr10=>rfl
   case hyr10=>((intro w hSw;go_simp);first | done | with_reducible rfl)
   try simp only [Act.put,lz3,lz4,lz5]
   refine wpAnyH_take (i:=1) (oi:=?oir21) (v:=?vr21) ?hir21 (by kernel_rfl) (by kernel_rfl) (by kernel_rfl) ?hQr21 (Or.inl ⟨?hwr21,?hyr21⟩) (by assumption) ?restr21
   case hir21=>(first | (simp only [lz0,lz1,lz2];rfl) | rfl)
   case hQr21=>exact fun _ _ _ h=>h
   case hwr21=>rfl
   case hyr21=>((intro w hSw;go_simp);first | done | with_reducible rfl)
   try simp only [Act.put,lz3,lz4,lz5]
   refine wpAnyH_take (i:=5) (oi:=?oir35) (v:=?vr35) ?hir35 (by kernel_rfl) (by kernel_rfl) (by kernel_rfl) ?hQr35 (Or.inl ⟨?hwr35,?hyr35⟩) (by assumption) ?restr35
   case hir35=>(first | (simp only [lz0,lz1,lz2];rfl) | rfl)
   case hQr35=>exact fun _ _ _ h=>h
   case hwr35=>rfl
   case hyr35=>((intro w hSw;go_simp);first | done | with_reducible rfl)
   try simp only [Act.put,lz3,lz4,lz5]
   refine wpAnyH_take (i:=8) (oi:=?oir48) (v:=?vr48) ?hir48 (by kernel_rfl) (by kernel_rfl) (by kernel_rfl) ?hQr48 (Or.inl ⟨?hwr48,?hyr48⟩) (by assumption) ?restr48
   case hir48=>(first | (simp only [lz0,lz1,lz2];rfl) | rfl)
   case hQr48=>exact fun _ _ _ h=>h
   case hwr48=>rfl
   case hyr48=>((intro w hSw;go_simp);first | done | with_reducible rfl)
   try simp only [Act.put,lz3,lz4,lz5]
   refine wpAnyH_take (i:=2) (oi:=?oir52) (v:=?vr52) ?hir52 (by kernel_rfl) (by kernel_rfl) (by kernel_rfl) ?hQr52 (Or.inl ⟨?hwr52,?hyr52⟩) (by assumption) ?restr52
   case hir52=>(first | (simp only [lz0,lz1,lz2];rfl) | rfl)
   case hQr52=>exact fun _ _ _ h=>h
   case hwr52=>rfl
   case hyr52=>((intro w hSw;go_simp);first | done | with_reducible rfl)
   try simp only [Act.put,lz3,lz4,lz5]
   refine wpAnyH_take (i:=6) (oi:=?oir66) (v:=?vr66) ?hir66 (by kernel_rfl) (by kernel_rfl) (by kernel_rfl) ?hQr66 (Or.inl ⟨?hwr66,?hyr66⟩) (by assumption) ?restr66
   case hir66=>(first | (simp only [lz0,lz1,lz2];rfl) | rfl)
   case hQr66=>exact fun _ _ _ h=>h
   case hwr66=>rfl
   case hyr66=>((intro w hSw;go_simp);first | done | with_reducible rfl)
   try simp only [Act.put,lz3,lz4,lz5]
   refine wpAnyH_take (i:=9) (oi:=?oir79) (v:=?vr79) ?hir79 (by kernel_rfl) (by kernel_rfl) (by kernel_rfl) ?hQr79 (Or.inl ⟨?hwr79,?hyr79⟩) (by assumption) ?restr79
   case hir79=>(first | (simp only [lz0,lz1,lz2];rfl) | rfl)
   case hQr79=>exact fun _ _ _ h=>h
   case hwr79=>rfl
   case hyr79=>((intro w hSw;go_simp);first | done | with_reducible rfl)
   try simp only [Act.put,lz3,lz4,lz5]
   refine wpAnyH_take (i:=3) (oi:=?oir83) (v:=?vr83) ?hir83 (by kernel_rfl) (by kernel_rfl) (by kernel_rfl) ?hQr83 (Or.inl ⟨?hwr83,?hyr83⟩) (by assumption) ?restr83
   case hir83=>(first | (simp only [lz0,lz1,lz2];rfl) | rfl)
   case hQr83=>exact fun _ _ _ h=>h
   case hwr83=>rfl
   case hyr83=>((intro w hSw;go_simp);first | done | with_reducible rfl)
   try simp only [Act.put,lz3,lz4,lz5]
   refine wpAnyH_ready (rs:=[4,7,10]) (by kernel_rfl) (by simp) ?_
   refine AllReadyH.cons (o:=?or9) ?hr9 ?sr9 (AllReadyH.cons (o:=?or10) ?hr10 ?sr10 (AllReadyH.cons (o:=?or11) ?hr11 ?sr11 AllReadyH.nil))
   case hr9=>(simp only [lz0,lz1,lz2];rfl)
   case hr10=>(simp only [lz0,lz1,lz2];rfl)
   case hr11=>(simp only [lz0,lz1,lz2];rfl)
   case sr9=>
    intro K hK
    go_simp
    refine (spNumber_any u0 pk.length (by omega)).mono ?_
    rintro e ub1 ⟨vc,rfl,hob4,hbb5⟩
    obtain ⟨Ab2,cb3,rfl,Nb6c⟩:=own_cap hob4
    have Nb6:Hid (BytesIn ub1 Ab2 (putL pk.length).length (putL pk.length)):=Lib.hid (BytesIn.own hob4 (by unfold maxLen;omega))
    have Bb7:=Lib.hid (below_then HB0.out hbb5 HB0.out.size)
    clear hob4 hbb5
    go_wp2_with fail
    refine hK.out _ _ (HCE.out _ (Kept.below Bb7.out)) (fun hr12=>?_)
    clear hK K
    try simp only [Act.put,lz3,lz4,lz5]
    refine wpAnyH_ready (rs:=[7,10]) (by kernel_rfl) (by simp) ?_
    refine AllReadyH.cons (o:=?or13) ?hr13 ?sr13 (AllReadyH.cons (o:=?or14) ?hr14 ?sr14 AllReadyH.nil)
    case hr13=>(simp only [lz0,lz1,lz2];rfl)
    case hr14=>(simp only [lz0,lz1,lz2];rfl)
    case sr13=>
     intro K hK
     obtain ⟨cb9,ub8,hrb10,hbb11,hib12,hcb13,-⟩:=bytes_of ub1 pk (by omega)
     go_simp
     have Kb14:=Lib.hid hib12
     have Bb15:=Lib.hid (below_then Bb7.out hbb11 Bb7.out.size)
     have Nb16:=Lib.hid (Nb6.out.below hbb11)
     clear hrb10 hib12 hbb11
     refine hK.out _ _ (HCE.out _ (Kept.below Bb15.out)) (fun hr15=>?_)
     clear hK K
     try simp only [Act.put,lz3,lz4,lz5]
     refine wpAnyH_ready (rs:=[10]) (by kernel_rfl) (by simp) ?_
     refine AllReadyH.cons (o:=?or16) ?hr16 ?sr16 AllReadyH.nil
     case hr16=>(simp only [lz0,lz1,lz2];rfl)
     case sr16=>
      intro K hK
      obtain ⟨cb18,ub17,hrb19,hbb20,hib21,hcb22,-⟩:=bytes_of ub8 pt (by omega)
      go_simp
      have Xb23:=Lib.hid hib21
      have Bb24:=Lib.hid (below_then Bb15.out hbb20 Bb15.out.size)
      have Nb25:=Lib.hid (Nb16.out.below hbb20)
      have Kb26:=Lib.hid (Kb14.out.below hbb20)
      clear hrb19 hib21 hbb20
      refine hK.out _ _ (HCE.out _ (Kept.below Bb24.out)) (fun hr17=>?_)
      clear hK K
      try simp only [Act.put,lz3,lz4,lz5]
      refine wpAnyH_ready (rs:=[11]) (by kernel_rfl) (by simp) ?_
      refine AllReadyH.cons (o:=?or18) ?hr18 ?sr18 AllReadyH.nil
      case hr18=>(simp only [lz0,lz1,lz2];rfl)
      case sr18=>
       intro K hK
       go_simp
       have Rb30:=Lib.hid (rows3 ub17 Ab2 (some ⟨ub1.heap.size,0,none⟩) (some ⟨ub8.heap.size,0,none⟩) cb3 cb9 cb18 (putL pk.length) pk pt Nb25.out Kb26.out Xb23.out Nb6c hcb13 hcb22)
       have hbb29:Below ub17.heap.size ub17 (ub17.alloc (.cells #[.slice Ab2 (putL pk.length).length cb3,.slice (some ⟨ub1.heap.size,0,none⟩) pk.length cb9,.slice (some ⟨ub8.heap.size,0,none⟩) pt.length cb18] 24)):=(Below.refl _ _).alloc (Nat.le_refl _) _
       have Bb31:=Lib.hid (below_then Bb24.out hbb29 Bb24.out.size)
       obtain ⟨ub27,hub28⟩:∃ zz,zz=ub17.alloc (.cells #[.slice Ab2 (putL pk.length).length cb3,.slice (some ⟨ub1.heap.size,0,none⟩) pk.length cb9,.slice (some ⟨ub8.heap.size,0,none⟩) pt.length cb18] 24):=⟨_,rfl⟩
       rw [← hub28] at Rb30 Bb31 ⊢
       clear hub28 hbb29
       refine hK.out _ _ (HCE.out _ (Kept.below Bb31.out)) (fun hr19=>?_)
       clear hK K
       try simp only [Act.put,lz3,lz4,lz5]
       refine wpAnyH_ready (rs:=[12]) (by kernel_rfl) (by simp) ?_
       refine AllReadyH.cons (o:=?or20) ?hr20 ?sr20 AllReadyH.nil
       case hr20=>(simp only [lz0,lz1,lz2];rfl)
       case sr20=>
        intro K hK
        go_simp
        refine (spPut_any ub27 w3.heap.size (w3.heap.size+1) v Q (HV1.out.below Bb31.out HV1.out.lt) (ownsRow_block HO1.out fun g hg=>Bb31.out.block g (HO1.out.lt g hg).2) (by omega) (by have:=Bb31.out.size;omega) (some ⟨ub17.heap.size,0,none⟩) 3 3 [putL pk.length,pk,pt] Rb30.out (by omega) (by rw [hfl];omega) (by rw [hfl];omega) (by omega)).mono ?_
        rintro e ub32 ⟨rfl,v2,hV2,hO2,hk2⟩
        have HV2:=Lib.hid hV2
        have HO2:=Lib.hid hO2
        have HK2:=Lib.hid ((Kept.below Bb31.out).trans hk2 (fun _ _ e=>e))
        clear hV2 hO2 hk2
        go_wp2_with fail
        refine hK.out _ _ (HCE.out _ HK2.out) (fun hr21=>?_)
        clear hK K
        try simp only [Act.put,lz3,lz4,lz5]
        refine wpAnyH_done (by kernel_rfl) ?_ _
        go_wp2
        obtain ⟨z1,z2,z3,z4⟩:=HFIN.out _ _ HV2.out HO2.out HK2.out
        exact ⟨⟨k+1,_,by omega,by go_num,z1,z2,z3,z4⟩,by simp [intOf];omega⟩
    case sr14=>
     intro K hK
     obtain ⟨cb34,ub33,hrb35,hbb36,hib37,hcb38,-⟩:=bytes_of ub1 pt (by omega)
     go_simp
     have Xb39:=Lib.hid hib37
     have Bb40:=Lib.hid (below_then Bb7.out hbb36 Bb7.out.size)
     have Nb41:=Lib.hid (Nb6.out.below hbb36)
     clear hrb35 hib37 hbb36
     refine hK.out _ _ (HCE.out _ (Kept.below Bb40.out)) (fun hr22=>?_)
     clear hK K
     try simp only [Act.put,lz3,lz4,lz5]
     refine wpAnyH_ready (rs:=[7]) (by kernel_rfl) (by simp) ?_
     refine AllReadyH.cons (o:=?or23) ?hr23 ?sr23 AllReadyH.nil
     case hr23=>(simp only [lz0,lz1,lz2];rfl)
     case sr23=>
      intro K hK
      obtain ⟨cb43,ub42,hrb44,hbb45,hib46,hcb47,-⟩:=bytes_of ub33 pk (by omega)
      go_simp
      have Kb48:=Lib.hid hib46
      have Bb49:=Lib.hid (below_then Bb40.out hbb45 Bb40.out.size)
      have Nb50:=Lib.hid (Nb41.out.below hbb45)
      have Xb51:=Lib.hid (Xb39.out.below hbb45)
      clear hrb44 hib46 hbb45
      refine hK.out _ _ (HCE.out _ (Kept.below Bb49.out)) (fun hr24=>?_)
      clear hK K
      try simp only [Act.put,lz3,lz4,lz5]
      refine wpAnyH_ready (rs:=[11]) (by kernel_rfl) (by simp) ?_
      refine AllReadyH.cons (o:=?or25) ?hr25 ?sr25 AllReadyH.nil
      case hr25=>(simp only [lz0,lz1,lz2];rfl)
      case sr25=>
       intro K hK
       go_simp
       have Rb55:=Lib.hid (rows3 ub42 Ab2 (some ⟨ub33.heap.size,0,none⟩) (some ⟨ub1.heap.size,0,none⟩) cb3 cb43 cb34 (putL pk.length) pk pt Nb50.out Kb48.out Xb51.out Nb6c hcb47 hcb38)
       have hbb54:Below ub42.heap.size ub42 (ub42.alloc (.cells #[.slice Ab2 (putL pk.length).length cb3,.slice (some ⟨ub33.heap.size,0,none⟩) pk.length cb43,.slice (some ⟨ub1.heap.size,0,none⟩) pt.length cb34] 24)):=(Below.refl _ _).alloc (Nat.le_refl _) _
       have Bb56:=Lib.hid (below_then Bb49.out hbb54 Bb49.out.size)
       obtain ⟨ub52,hub53⟩:∃ zz,zz=ub42.alloc (.cells #[.slice Ab2 (putL pk.length).length cb3,.slice (some ⟨ub33.heap.size,0,none⟩) pk.length cb43,.slice (some ⟨ub1.heap.size,0,none⟩) pt.length cb34] 24):=⟨_,rfl⟩
       rw [← hub53] at Rb55 Bb56 ⊢
       clear hub53 hbb54
       refine hK.out _ _ (HCE.out _ (Kept.below Bb56.out)) (fun hr26=>?_)
       clear hK K
       try simp only [Act.put,lz3,lz4,lz5]
       refine wpAnyH_ready (rs:=[12]) (by kernel_rfl) (by simp) ?_
       refine AllReadyH.cons (o:=?or27) ?hr27 ?sr27 AllReadyH.nil
       case hr27=>(simp only [lz0,lz1,lz2];rfl)
       case sr27=>
        intro K hK
        go_simp
        refine (spPut_any ub52 w3.heap.size (w3.heap.size+1) v Q (HV1.out.below Bb56.out HV1.out.lt) (ownsRow_block HO1.out fun g hg=>Bb56.out.block g (HO1.out.lt g hg).2) (by omega) (by have:=Bb56.out.size;omega) (some ⟨ub42.heap.size,0,none⟩) 3 3 [putL pk.length,pk,pt] Rb55.out (by omega) (by rw [hfl];omega) (by rw [hfl];omega) (by omega)).mono ?_
        rintro e ub57 ⟨rfl,v2,hV2,hO2,hk2⟩
        have HV2:=Lib.hid hV2
        have HO2:=Lib.hid hO2
        have HK2:=Lib.hid ((Kept.below Bb56.out).trans hk2 (fun _ _ e=>e))
        clear hV2 hO2 hk2
        go_wp2_with fail
        refine hK.out _ _ (HCE.out _ HK2.out) (fun hr28=>?_)
        clear hK K
        try simp only [Act.put,lz3,lz4,lz5]
        refine wpAnyH_done (by kernel_rfl) ?_ _
        go_wp2
        obtain ⟨z1,z2,z3,z4⟩:=HFIN.out _ _ HV2.out HO2.out HK2.out
        exact ⟨⟨k+1,_,by omega,by go_num,z1,z2,z3,z4⟩,by simp [intOf];omega⟩
   case sr10=>
    intro K hK
    obtain ⟨cb59,ub58,hrb60,hbb61,hib62,hcb63,-⟩:=bytes_of u0 pk (by omega)
    go_simp
    have Kb64:=Lib.hid hib62
    have Bb65:=Lib.hid (below_then HB0.out hbb61 HB0.out.size)
    clear hrb60 hib62 hbb61
    refine hK.out _ _ (HCE.out _ (Kept.below Bb65.out)) (fun hr29=>?_)
    clear hK K
    try simp only [Act.put,lz3,lz4,lz5]
    refine wpAnyH_ready (rs:=[4,10]) (by kernel_rfl) (by simp) ?_
    refine AllReadyH.cons (o:=?or30) ?hr30 ?sr30 (AllReadyH.cons (o:=?or31) ?hr31 ?sr31 AllReadyH.nil)
    case hr30=>(simp only [lz0,lz1,lz2];rfl)
    case hr31=>(simp only [lz0,lz1,lz2];rfl)
    case sr30=>
     intro K hK
     go_simp
     refine (spNumber_any ub58 pk.length (by omega)).mono ?_
     rintro e ub66 ⟨vc,rfl,hob69,hbb70⟩
     obtain ⟨Ab67,cb68,rfl,Nb71c⟩:=own_cap hob69
     have Nb71:Hid (BytesIn ub66 Ab67 (putL pk.length).length (putL pk.length)):=Lib.hid (BytesIn.own hob69 (by unfold maxLen;omega))
     have Bb72:=Lib.hid (below_then Bb65.out hbb70 Bb65.out.size)
     have Kb73:=Lib.hid (Kb64.out.below hbb70)
     clear hob69 hbb70
     go_wp2_with fail
     refine hK.out _ _ (HCE.out _ (Kept.below Bb72.out)) (fun hr32=>?_)
     clear hK K
     try simp only [Act.put,lz3,lz4,lz5]
     refine wpAnyH_ready (rs:=[10]) (by kernel_rfl) (by simp) ?_
     refine AllReadyH.cons (o:=?or33) ?hr33 ?sr33 AllReadyH.nil
     case hr33=>(simp only [lz0,lz1,lz2];rfl)
     case sr33=>
      intro K hK
      obtain ⟨cb75,ub74,hrb76,hbb77,hib78,hcb79,-⟩:=bytes_of ub66 pt (by omega)
      go_simp
      have Xb80:=Lib.hid hib78
      have Bb81:=Lib.hid (below_then Bb72.out hbb77 Bb72.out.size)
      have Nb82:=Lib.hid (Nb71.out.below hbb77)
      have Kb83:=Lib.hid (Kb73.out.below hbb77)
      clear hrb76 hib78 hbb77
      refine hK.out _ _ (HCE.out _ (Kept.below Bb81.out)) (fun hr34=>?_)
      clear hK K
      try simp only [Act.put,lz3,lz4,lz5]
      refine wpAnyH_ready (rs:=[11]) (by kernel_rfl) (by simp) ?_
      refine AllReadyH.cons (o:=?or35) ?hr35 ?sr35 AllReadyH.nil
      case hr35=>(simp only [lz0,lz1,lz2];rfl)
      case sr35=>
       intro K hK
       go_simp
       have Rb87:=Lib.hid (rows3 ub74 Ab67 (some ⟨u0.heap.size,0,none⟩) (some ⟨ub66.heap.size,0,none⟩) cb68 cb59 cb75 (putL pk.length) pk pt Nb82.out Kb83.out Xb80.out Nb71c hcb63 hcb79)
       have hbb86:Below ub74.heap.size ub74 (ub74.alloc (.cells #[.slice Ab67 (putL pk.length).length cb68,.slice (some ⟨u0.heap.size,0,none⟩) pk.length cb59,.slice (some ⟨ub66.heap.size,0,none⟩) pt.length cb75] 24)):=(Below.refl _ _).alloc (Nat.le_refl _) _
       have Bb88:=Lib.hid (below_then Bb81.out hbb86 Bb81.out.size)
       obtain ⟨ub84,hub85⟩:∃ zz,zz=ub74.alloc (.cells #[.slice Ab67 (putL pk.length).length cb68,.slice (some ⟨u0.heap.size,0,none⟩) pk.length cb59,.slice (some ⟨ub66.heap.size,0,none⟩) pt.length cb75] 24):=⟨_,rfl⟩
       rw [← hub85] at Rb87 Bb88 ⊢
       clear hub85 hbb86
       refine hK.out _ _ (HCE.out _ (Kept.below Bb88.out)) (fun hr36=>?_)
       clear hK K
       try simp only [Act.put,lz3,lz4,lz5]
       refine wpAnyH_ready (rs:=[12]) (by kernel_rfl) (by simp) ?_
       refine AllReadyH.cons (o:=?or37) ?hr37 ?sr37 AllReadyH.nil
       case hr37=>(simp only [lz0,lz1,lz2];rfl)
       case sr37=>
        intro K hK
        go_simp
        refine (spPut_any ub84 w3.heap.size (w3.heap.size+1) v Q (HV1.out.below Bb88.out HV1.out.lt) (ownsRow_block HO1.out fun g hg=>Bb88.out.block g (HO1.out.lt g hg).2) (by omega) (by have:=Bb88.out.size;omega) (some ⟨ub74.heap.size,0,none⟩) 3 3 [putL pk.length,pk,pt] Rb87.out (by omega) (by rw [hfl];omega) (by rw [hfl];omega) (by omega)).mono ?_
        rintro e ub89 ⟨rfl,v2,hV2,hO2,hk2⟩
        have HV2:=Lib.hid hV2
        have HO2:=Lib.hid hO2
        have HK2:=Lib.hid ((Kept.below Bb88.out).trans hk2 (fun _ _ e=>e))
        clear hV2 hO2 hk2
        go_wp2_with fail
        refine hK.out _ _ (HCE.out _ HK2.out) (fun hr38=>?_)
        clear hK K
        try simp only [Act.put,lz3,lz4,lz5]
        refine wpAnyH_done (by kernel_rfl) ?_ _
        go_wp2
        obtain ⟨z1,z2,z3,z4⟩:=HFIN.out _ _ HV2.out HO2.out HK2.out
        exact ⟨⟨k+1,_,by omega,by go_num,z1,z2,z3,z4⟩,by simp [intOf];omega⟩
    case sr31=>
     intro K hK
     obtain ⟨cb91,ub90,hrb92,hbb93,hib94,hcb95,-⟩:=bytes_of ub58 pt (by omega)
     go_simp
     have Xb96:=Lib.hid hib94
     have Bb97:=Lib.hid (below_then Bb65.out hbb93 Bb65.out.size)
     have Kb98:=Lib.hid (Kb64.out.below hbb93)
     clear hrb92 hib94 hbb93
     refine hK.out _ _ (HCE.out _ (Kept.below Bb97.out)) (fun hr39=>?_)
     clear hK K
     try simp only [Act.put,lz3,lz4,lz5]
     refine wpAnyH_ready (rs:=[4]) (by kernel_rfl) (by simp) ?_
     refine AllReadyH.cons (o:=?or40) ?hr40 ?sr40 AllReadyH.nil
     case hr40=>(simp only [lz0,lz1,lz2];rfl)
     case sr40=>
      intro K hK
      go_simp
      refine (spNumber_any ub90 pk.length (by omega)).mono ?_
      rintro e ub99 ⟨vc,rfl,hob102,hbb103⟩
      obtain ⟨Ab100,cb101,rfl,Nb104c⟩:=own_cap hob102
      have Nb104:Hid (BytesIn ub99 Ab100 (putL pk.length).length (putL pk.length)):=Lib.hid (BytesIn.own hob102 (by unfold maxLen;omega))
      have Bb105:=Lib.hid (below_then Bb97.out hbb103 Bb97.out.size)
      have Kb106:=Lib.hid (Kb98.out.below hbb103)
      have Xb107:=Lib.hid (Xb96.out.below hbb103)
      clear hob102 hbb103
      go_wp2_with fail
      refine hK.out _ _ (HCE.out _ (Kept.below Bb105.out)) (fun hr41=>?_)
      clear hK K
      try simp only [Act.put,lz3,lz4,lz5]
      refine wpAnyH_ready (rs:=[11]) (by kernel_rfl) (by simp) ?_
      refine AllReadyH.cons (o:=?or42) ?hr42 ?sr42 AllReadyH.nil
      case hr42=>(simp only [lz0,lz1,lz2];rfl)
      case sr42=>
       intro K hK
       go_simp
       have Rb111:=Lib.hid (rows3 ub99 Ab100 (some ⟨u0.heap.size,0,none⟩) (some ⟨ub58.heap.size,0,none⟩) cb101 cb59 cb91 (putL pk.length) pk pt Nb104.out Kb106.out Xb107.out Nb104c hcb63 hcb95)
       have hbb110:Below ub99.heap.size ub99 (ub99.alloc (.cells #[.slice Ab100 (putL pk.length).length cb101,.slice (some ⟨u0.heap.size,0,none⟩) pk.length cb59,.slice (some ⟨ub58.heap.size,0,none⟩) pt.length cb91] 24)):=(Below.refl _ _).alloc (Nat.le_refl _) _
       have Bb112:=Lib.hid (below_then Bb105.out hbb110 Bb105.out.size)
       obtain ⟨ub108,hub109⟩:∃ zz,zz=ub99.alloc (.cells #[.slice Ab100 (putL pk.length).length cb101,.slice (some ⟨u0.heap.size,0,none⟩) pk.length cb59,.slice (some ⟨ub58.heap.size,0,none⟩) pt.length cb91] 24):=⟨_,rfl⟩
       rw [← hub109] at Rb111 Bb112 ⊢
       clear hub109 hbb110
       refine hK.out _ _ (HCE.out _ (Kept.below Bb112.out)) (fun hr43=>?_)
       clear hK K
       try simp only [Act.put,lz3,lz4,lz5]
       refine wpAnyH_ready (rs:=[12]) (by kernel_rfl) (by simp) ?_
       refine AllReadyH.cons (o:=?or44) ?hr44 ?sr44 AllReadyH.nil
       case hr44=>(simp only [lz0,lz1,lz2];rfl)
       case sr44=>
        intro K hK
        go_simp
        refine (spPut_any ub108 w3.heap.size (w3.heap.size+1) v Q (HV1.out.below Bb112.out HV1.out.lt) (ownsRow_block HO1.out fun g hg=>Bb112.out.block g (HO1.out.lt g hg).2) (by omega) (by have:=Bb112.out.size;omega) (some ⟨ub99.heap.size,0,none⟩) 3 3 [putL pk.length,pk,pt] Rb111.out (by omega) (by rw [hfl];omega) (by rw [hfl];omega) (by omega)).mono ?_
        rintro e ub113 ⟨rfl,v2,hV2,hO2,hk2⟩
        have HV2:=Lib.hid hV2
        have HO2:=Lib.hid hO2
        have HK2:=Lib.hid ((Kept.below Bb112.out).trans hk2 (fun _ _ e=>e))
        clear hV2 hO2 hk2
        go_wp2_with fail
        refine hK.out _ _ (HCE.out _ HK2.out) (fun hr45=>?_)
        clear hK K
        try simp only [Act.put,lz3,lz4,lz5]
        refine wpAnyH_done (by kernel_rfl) ?_ _
        go_wp2
        obtain ⟨z1,z2,z3,z4⟩:=HFIN.out _ _ HV2.out HO2.out HK2.out
        exact ⟨⟨k+1,_,by omega,by go_num,z1,z2,z3,z4⟩,by simp [intOf];omega⟩
   case sr11=>
    intro K hK
    obtain ⟨cb115,ub114,hrb116,hbb117,hib118,hcb119,-⟩:=bytes_of u0 pt (by omega)
    go_simp
    have Xb120:=Lib.hid hib118
    have Bb121:=Lib.hid (below_then HB0.out hbb117 HB0.out.size)
    clear hrb116 hib118 hbb117
    refine hK.out _ _ (HCE.out _ (Kept.below Bb121.out)) (fun hr46=>?_)
    clear hK K
    try simp only [Act.put,lz3,lz4,lz5]
    refine wpAnyH_ready (rs:=[4,7]) (by kernel_rfl) (by simp) ?_
    refine AllReadyH.cons (o:=?or47) ?hr47 ?sr47 (AllReadyH.cons (o:=?or48) ?hr48 ?sr48 AllReadyH.nil)
    case hr47=>(simp only [lz0,lz1,lz2];rfl)
    case hr48=>(simp only [lz0,lz1,lz2];rfl)
    case sr47=>
     intro K hK
     go_simp
     refine (spNumber_any ub114 pk.length (by omega)).mono ?_
     rintro e ub122 ⟨vc,rfl,hob125,hbb126⟩
     obtain ⟨Ab123,cb124,rfl,Nb127c⟩:=own_cap hob125
     have Nb127:Hid (BytesIn ub122 Ab123 (putL pk.length).length (putL pk.length)):=Lib.hid (BytesIn.own hob125 (by unfold maxLen;omega))
     have Bb128:=Lib.hid (below_then Bb121.out hbb126 Bb121.out.size)
     have Xb129:=Lib.hid (Xb120.out.below hbb126)
     clear hob125 hbb126
     go_wp2_with fail
     refine hK.out _ _ (HCE.out _ (Kept.below Bb128.out)) (fun hr49=>?_)
     clear hK K
     try simp only [Act.put,lz3,lz4,lz5]
     refine wpAnyH_ready (rs:=[7]) (by kernel_rfl) (by simp) ?_
     refine AllReadyH.cons (o:=?or50) ?hr50 ?sr50 AllReadyH.nil
     case hr50=>(simp only [lz0,lz1,lz2];rfl)
     case sr50=>
      intro K hK
      obtain ⟨cb131,ub130,hrb132,hbb133,hib134,hcb135,-⟩:=bytes_of ub122 pk (by omega)
      go_simp
      have Kb136:=Lib.hid hib134
      have Bb137:=Lib.hid (below_then Bb128.out hbb133 Bb128.out.size)
      have Nb138:=Lib.hid (Nb127.out.below hbb133)
      have Xb139:=Lib.hid (Xb129.out.below hbb133)
      clear hrb132 hib134 hbb133
      refine hK.out _ _ (HCE.out _ (Kept.below Bb137.out)) (fun hr51=>?_)
      clear hK K
      try simp only [Act.put,lz3,lz4,lz5]
      refine wpAnyH_ready (rs:=[11]) (by kernel_rfl) (by simp) ?_
      refine AllReadyH.cons (o:=?or52) ?hr52 ?sr52 AllReadyH.nil
      case hr52=>(simp only [lz0,lz1,lz2];rfl)
      case sr52=>
       intro K hK
       go_simp
       have Rb143:=Lib.hid (rows3 ub130 Ab123 (some ⟨ub122.heap.size,0,none⟩) (some ⟨u0.heap.size,0,none⟩) cb124 cb131 cb115 (putL pk.length) pk pt Nb138.out Kb136.out Xb139.out Nb127c hcb135 hcb119)
       have hbb142:Below ub130.heap.size ub130 (ub130.alloc (.cells #[.slice Ab123 (putL pk.length).length cb124,.slice (some ⟨ub122.heap.size,0,none⟩) pk.length cb131,.slice (some ⟨u0.heap.size,0,none⟩) pt.length cb115] 24)):=(Below.refl _ _).alloc (Nat.le_refl _) _
       have Bb144:=Lib.hid (below_then Bb137.out hbb142 Bb137.out.size)
       obtain ⟨ub140,hub141⟩:∃ zz,zz=ub130.alloc (.cells #[.slice Ab123 (putL pk.length).length cb124,.slice (some ⟨ub122.heap.size,0,none⟩) pk.length cb131,.slice (some ⟨u0.heap.size,0,none⟩) pt.length cb115] 24):=⟨_,rfl⟩
       rw [← hub141] at Rb143 Bb144 ⊢
       clear hub141 hbb142
       refine hK.out _ _ (HCE.out _ (Kept.below Bb144.out)) (fun hr53=>?_)
       clear hK K
       try simp only [Act.put,lz3,lz4,lz5]
       refine wpAnyH_ready (rs:=[12]) (by kernel_rfl) (by simp) ?_
       refine AllReadyH.cons (o:=?or54) ?hr54 ?sr54 AllReadyH.nil
       case hr54=>(simp only [lz0,lz1,lz2];rfl)
       case sr54=>
        intro K hK
        go_simp
        refine (spPut_any ub140 w3.heap.size (w3.heap.size+1) v Q (HV1.out.below Bb144.out HV1.out.lt) (ownsRow_block HO1.out fun g hg=>Bb144.out.block g (HO1.out.lt g hg).2) (by omega) (by have:=Bb144.out.size;omega) (some ⟨ub130.heap.size,0,none⟩) 3 3 [putL pk.length,pk,pt] Rb143.out (by omega) (by rw [hfl];omega) (by rw [hfl];omega) (by omega)).mono ?_
        rintro e ub145 ⟨rfl,v2,hV2,hO2,hk2⟩
        have HV2:=Lib.hid hV2
        have HO2:=Lib.hid hO2
        have HK2:=Lib.hid ((Kept.below Bb144.out).trans hk2 (fun _ _ e=>e))
        clear hV2 hO2 hk2
        go_wp2_with fail
        refine hK.out _ _ (HCE.out _ HK2.out) (fun hr55=>?_)
        clear hK K
        try simp only [Act.put,lz3,lz4,lz5]
        refine wpAnyH_done (by kernel_rfl) ?_ _
        go_wp2
        obtain ⟨z1,z2,z3,z4⟩:=HFIN.out _ _ HV2.out HO2.out HK2.out
        exact ⟨⟨k+1,_,by omega,by go_num,z1,z2,z3,z4⟩,by simp [intOf];omega⟩
    case sr48=>
     intro K hK
     obtain ⟨cb147,ub146,hrb148,hbb149,hib150,hcb151,-⟩:=bytes_of ub114 pk (by omega)
     go_simp
     have Kb152:=Lib.hid hib150
     have Bb153:=Lib.hid (below_then Bb121.out hbb149 Bb121.out.size)
     have Xb154:=Lib.hid (Xb120.out.below hbb149)
     clear hrb148 hib150 hbb149
     refine hK.out _ _ (HCE.out _ (Kept.below Bb153.out)) (fun hr56=>?_)
     clear hK K
     try simp only [Act.put,lz3,lz4,lz5]
     refine wpAnyH_ready (rs:=[4]) (by kernel_rfl) (by simp) ?_
     refine AllReadyH.cons (o:=?or57) ?hr57 ?sr57 AllReadyH.nil
     case hr57=>(simp only [lz0,lz1,lz2];rfl)
     case sr57=>
      intro K hK
      go_simp
      refine (spNumber_any ub146 pk.length (by omega)).mono ?_
      rintro e ub155 ⟨vc,rfl,hob158,hbb159⟩
      obtain ⟨Ab156,cb157,rfl,Nb160c⟩:=own_cap hob158
      have Nb160:Hid (BytesIn ub155 Ab156 (putL pk.length).length (putL pk.length)):=Lib.hid (BytesIn.own hob158 (by unfold maxLen;omega))
      have Bb161:=Lib.hid (below_then Bb153.out hbb159 Bb153.out.size)
      have Kb162:=Lib.hid (Kb152.out.below hbb159)
      have Xb163:=Lib.hid (Xb154.out.below hbb159)
      clear hob158 hbb159
      go_wp2_with fail
      refine hK.out _ _ (HCE.out _ (Kept.below Bb161.out)) (fun hr58=>?_)
      clear hK K
      try simp only [Act.put,lz3,lz4,lz5]
      refine wpAnyH_ready (rs:=[11]) (by kernel_rfl) (by simp) ?_
      refine AllReadyH.cons (o:=?or59) ?hr59 ?sr59 AllReadyH.nil
      case hr59=>(simp only [lz0,lz1,lz2];rfl)
      case sr59=>
       intro K hK
       go_simp
       have Rb167:=Lib.hid (rows3 ub155 Ab156 (some ⟨ub114.heap.size,0,none⟩) (some ⟨u0.heap.size,0,none⟩) cb157 cb147 cb115 (putL pk.length) pk pt Nb160.out Kb162.out Xb163.out Nb160c hcb151 hcb119)
       have hbb166:Below ub155.heap.size ub155 (ub155.alloc (.cells #[.slice Ab156 (putL pk.length).length cb157,.slice (some ⟨ub114.heap.size,0,none⟩) pk.length cb147,.slice (some ⟨u0.heap.size,0,none⟩) pt.length cb115] 24)):=(Below.refl _ _).alloc (Nat.le_refl _) _
       have Bb168:=Lib.hid (below_then Bb161.out hbb166 Bb161.out.size)
       obtain ⟨ub164,hub165⟩:∃ zz,zz=ub155.alloc (.cells #[.slice Ab156 (putL pk.length).length cb157,.slice (some ⟨ub114.heap.size,0,none⟩) pk.length cb147,.slice (some ⟨u0.heap.size,0,none⟩) pt.length cb115] 24):=⟨_,rfl⟩
       rw [← hub165] at Rb167 Bb168 ⊢
       clear hub165 hbb166
       refine hK.out _ _ (HCE.out _ (Kept.below Bb168.out)) (fun hr60=>?_)
       clear hK K
       try simp only [Act.put,lz3,lz4,lz5]
       refine wpAnyH_ready (rs:=[12]) (by kernel_rfl) (by simp) ?_
       refine AllReadyH.cons (o:=?or61) ?hr61 ?sr61 AllReadyH.nil
       case hr61=>(simp only [lz0,lz1,lz2];rfl)
       case sr61=>
        intro K hK
        go_simp
        refine (spPut_any ub164 w3.heap.size (w3.heap.size+1) v Q (HV1.out.below Bb168.out HV1.out.lt) (ownsRow_block HO1.out fun g hg=>Bb168.out.block g (HO1.out.lt g hg).2) (by omega) (by have:=Bb168.out.size;omega) (some ⟨ub155.heap.size,0,none⟩) 3 3 [putL pk.length,pk,pt] Rb167.out (by omega) (by rw [hfl];omega) (by rw [hfl];omega) (by omega)).mono ?_
        rintro e ub169 ⟨rfl,v2,hV2,hO2,hk2⟩
        have HV2:=Lib.hid hV2
        have HO2:=Lib.hid hO2
        have HK2:=Lib.hid ((Kept.below Bb168.out).trans hk2 (fun _ _ e=>e))
        clear hV2 hO2 hk2
        go_wp2_with fail
        refine hK.out _ _ (HCE.out _ HK2.out) (fun hr62=>?_)
        clear hK K
        try simp only [Act.put,lz3,lz4,lz5]
        refine wpAnyH_done (by kernel_rfl) ?_ _
        go_wp2
        obtain ⟨z1,z2,z3,z4⟩:=HFIN.out _ _ HV2.out HO2.out HK2.out
        exact ⟨⟨k+1,_,by omega,by go_num,z1,z2,z3,z4⟩,by simp [intOf];omega⟩
  ·obtain rfl:k=n:=by omega
   have d2:decide ((k:Int) < (k:Int))=false:=by simp
   have hQ2:Q=H++l.flatMap docF:=by rw [HQ.out,List.take_of_length_le (by rw [HN.out];exact Nat.le_refl _)]
   have HQ2:=Lib.hid hQ2
   clear hQ2 HQ
   go_wp2
   go_loopw [60] (fun i wr=>∃ (j:Nat) (v:Value),j≤tl∧i=.int .i64 j∧Blk wr w3.heap.size 24 #[v]∧wr.ownsRow (w3.heap.size+1) 5 1 v (Q++((mTerms L).take j).flatMap (termF L)).length ((Q++((mTerms L).take j).flatMap (termF L)).map byteV)∧w3.heap.size+1≤wr.heap.size∧Below w3.heap.size w3 wr) (fun i _=>tl - (intOf i).toNat)
   case atStart=>exact ⟨0,v,by omega,rfl,HV.out,by simpa using HOW.out,hsz,HBW.out⟩
   case round=>
    clear HV HOW HBW hsz
    obtain ⟨j,v,hj,rfl,hv,ho,hsz,hb⟩:=hrel
    obtain ⟨P,hP⟩:∃ P,P=Q++((mTerms L).take j).flatMap (termF L):=⟨_,rfl⟩
    rw [← hP] at ho
    have hPl:P.length≤268860+j * 368803900:=by
     have h1:=flat_le (termF L) 368803900 ((mTerms L).take j) (fun x hx=>termF_le HMW.out (sterms_fit HMW.out (List.mem_of_mem_take hx)).2)
     have h2:((mTerms L).take j).length≤j:=by rw [List.length_take];omega
     rw [hP,List.length_append]
     have:=Nat.mul_le_mul_right 368803900 h2
     omega
    have HP:=Lib.hid hP
    have HV:=Lib.hid hv
    have HOW:=Lib.hid ho
    have HBW:=Lib.hid hb
    clear hv ho hb hP
    rcases Nat.lt_or_ge j tl with hlt | hge2
    ·have d3:decide ((j:Int) < (tl:Int))=true:=by simpa using hlt
     have p0:(0:Int)≤(j:Int):=by omega
     have p1:(j:Int) < (tl:Int):=by omega
     obtain ⟨pa,t,rfl,htt,ct0,-,-⟩:=(HIT.out.below HBW.out).at j hlt
     have hft:=sterms_fit HMW.out (List.mem_of_getElem? htt)
     obtain ⟨tn',rfl⟩:∃ m:Nat,t=m:=⟨t.toNat,by omega⟩
     have HTT:=Lib.hid htt
     have htb:=termB_le HMW.out hft.2
     have hpt:=putL_len tn' (by omega)
     have hPO:=m0Posts_any (HM3.out.keep (w':=wr) (fun i hi=>HBW.out.block i (HM3.out.2.1 i hi)) HBW.out.size) HMW.out (by omega) (tn':Int) ⟨by omega,by omega⟩
     have HPO:=Lib.hid hPO
     clear htt hPO
     go_wp2_with fail
     refine HPO.out.mono ?_
     rintro e y1 ⟨Ap,cp,rfl,hsee,hcp,hb1⟩
     obtain ⟨pl,hpl⟩:∃ pl,pl=(mPosts L (tn':Int)).length:=⟨_,rfl⟩
     have hplm:pl≤4096:=by
      have h1:=postUp_len L (tn':Int) L.length
      have h2:=HMW.out.few
      rw [hpl]
      unfold mPosts
      omega
     rw [← hpl] at hsee ⊢
     have HPS:=Lib.hid hsee
     have HB1y:=Lib.hid hb1
     have hsy1:=hb1.size
     clear hsee hb1 hpl hcp HPO
     go_wp2_with fail
     refine (gPut_any y1 Ap pl cp (mPosts L (tn':Int)) HPS.out (by omega)).mono ?_
     rintro e y2 ⟨vb,rfl,hob,hb2⟩
     obtain ⟨E,hE⟩:∃ E,E=putE (mPosts L (tn':Int)):=⟨_,rfl⟩
     rw [← hE] at hob
     have hEt:termB L (tn':Int)=putL tn'++E:=by unfold termB;rw [hE];rfl
     rw [hEt] at htb
     have hEl:E.length≤368803870:=by rw [List.length_append] at htb;omega
     obtain ⟨Ab,cb2,rfl,hcb⟩:=own_cap hob
     have HIB:=Lib.hid (BytesIn.own hob (by unfold maxLen;omega))
     have HB2y:=Lib.hid (below_then HB1y.out hb2 hsy1)
     have hsy2:=HB2y.out.size
     have HET:=Lib.hid hEt
     clear hob hb2 hE hEt ct0 HPS HB1y
     go_wp2_with fail
     refine (spNumber_any y2 tn' (by omega)).mono ?_
     rintro e y3 ⟨v3,rfl,ho3,hb3⟩
     obtain ⟨A3,c3,rfl,hc3⟩:=own_cap ho3
     have HI3:=Lib.hid (BytesIn.own ho3 (by unfold maxLen;omega))
     have HIB3:=Lib.hid (HIB.out.below hb3)
     have HB3y:=Lib.hid (below_then HB2y.out hb3 hsy2)
     have hsy3:=hb3.size
     clear ho3 hb3 HIB HB2y
     have HR4:=Lib.hid (rows2 y3 A3 Ab c3 cb2 (putL tn') E HI3.out HIB3.out hc3 hcb)
     have hb4:Below y3.heap.size y3 (y3.alloc (.cells #[.slice A3 (putL tn').length c3,.slice Ab E.length cb2] 24)):=(Below.refl _ _).alloc (Nat.le_refl _) _
     have HB4y:=Lib.hid (below_then HB3y.out hb4 HB3y.out.size)
     obtain ⟨Y4,hY4⟩:∃ z,z=y3.alloc (.cells #[.slice A3 (putL tn').length c3,.slice Ab E.length cb2] 24):=⟨_,rfl⟩
     rw [← hY4] at HR4 HB4y
     have HY4:=Lib.hid hY4
     have hsy4:=HB4y.out.size
     clear hb4 hY4 HI3 HIB3 HB3y
     have hfl:[putL tn',E].flatten=putL tn'++E:=sflat2 _ _
     have hpl0:0 < (putL tn'++E).length:=by have:=putL_pos tn';rw [List.length_append];omega
     go_wp2_with fail
     rw [← HY4.out]
     refine (spPut_any Y4 w3.heap.size (w3.heap.size+1) v P (HV.out.below HB4y.out HV.out.lt) (ownsRow_block HOW.out fun g hg=>HB4y.out.block g (HOW.out.lt g hg).2) (by omega) (by omega) _ 2 2 [putL tn',E] HR4.out (by omega) (by rw [hfl];omega) (by rw [hfl];omega) (by omega)).mono ?_
     rintro e y5 ⟨rfl,v2,hV2,hO2,hk2⟩
     have HV2:=Lib.hid hV2
     have HO2:=Lib.hid hO2
     have HK2:=Lib.hid ((Kept.below HB4y.out).trans hk2 (fun _ _ e=>e))
     clear hV2 hO2 hk2
     go_wp2
     refine ⟨⟨j+1,v2,by omega,by go_num,HV2.out,?_,by have:=HK2.out.size;omega,HBW.out.trans (HK2.out.toBelow HBW.out.size (fun i hi=>?_))⟩,by simp [intOf];omega⟩
     ·have h2:=HO2.out
      rw [flat_take (termF L) HTT.out,← List.append_assoc,← HP.out]
      unfold termF
      rw [HET.out]
      rw [hfl] at h2
      exact h2
     ·rcases hi with hi | hi
      ·omega
      ·have:=(HOW.out.lt i hi).1;omega
    ·obtain rfl:j=tl:=by omega
     have d3:decide ((j:Int) < (j:Int))=false:=by simp
     have c0:=HV.out.cell 0
     simp only [lz0,lz1,lz2] at c0
     go_wp2
     go_ret2
     have hfin:P=segB V l:=by
      rw [HSEG.out,← HTL.out,HP.out,HQ2.out,HH.out,List.take_of_length_le (by rw [HTL.out];exact Nat.le_refl _)]
     refine ⟨v,rfl,?_,HB3.out.trans (HBW.out.mono HB3.out.size)⟩
     rw [← hfin]
     exact own_leE HOW.out (by omega)
theorem segOk:SegOk Sg0 K0 where
 keep:=fun h hk hs=>h.keep hk hs
 lt:=fun h i hi=>h.2.1 i hi
 build:=fun {w b V} hC hO A n c l hl _ ht=>by
  by_cases hR:docsR l
  ·exact s0Build_any hC hO A n c l hl hR ht
  ·exact (s0Build_no w b A n c l hl hR).mono fun e w' h=>by unfold SegOut;rw [if_neg hR];exact h
 build_no:=fun {w b V} _ _ A n c l hl _ hR=>(s0Build_no w b A n c l hl hR).mono fun e w' h=>by unfold SegOut;rw [if_neg hR];exact h
 build_nil:=fun w A n c _ _ _=>s0Build_nil w A n c
 open_:=fun w A n c b hb hc hn=>s0Open_any w A n c b hb hc hn
 many:=fun h _=>s0Many_any h
 doc:=fun h _ i hi=>s0Doc_any h i hi
 terms:=fun h hw=>s0Terms_any h hw.up hw.tok
 cursor:=fun h _ t ht=>s0Cursor_any h t ht
theorem curW:CurW K0 where
 keep:=fun h hk hs=>k0_keep h hk hs
 lt:=k0_lt
 doc:=fun h _=>(k0_doc h).mono fun _ _ ⟨h1,h2⟩=>⟨h1,by rw [h2];exact Below.refl _ _⟩
 spots:=fun h _=>k0_spotsN h
 next:=k0_next
end Go.Proofs.YthcjikpabpgpfaaGreat
