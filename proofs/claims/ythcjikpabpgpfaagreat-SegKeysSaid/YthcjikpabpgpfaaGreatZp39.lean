import Derived.Test.YthcjikpabpgpfaaGreatZp0
import Derived.Test.YthcjikpabpgpfaaGreatZp35
import Derived.Deep.RegionHeld3
import Derived.Test.YthcjikpabpgpfaaGreatZp1
set_option linter.unusedSimpArgs false
set_option maxHeartbeats 16000000
set_option maxRecDepth 100000
namespace Go.Proofs.YthcjikpabpgpfaaGreat
open Go.RowKit Go.Maps Go.WideMaps
theorem two_cells {w:World} {g:Nat} {t:TypeId} {x y:Value} (h:Blk w g t #[x,y]):w.cell? ⟨g,0,none⟩=some x∧w.cell? ⟨g,1,none⟩=some y:=by
 have h0:=h.cell 0
 have h1:=h.cell 1
 simp only [lz0,lz1,lz2] at h0 h1
 exact ⟨h0,h1⟩
theorem add_any (w0 w:World) (r b:Nat) (V:Voc) (hC:Coder w0 b V) {at_ before behind:List Int} {st:List (Nat×Nat)} {va vb vc vs:Value} (hR:IsRow w0 w r b at_ before behind st va vb vc vs) (hsort:st.Pairwise gtS) {place:Int} {s:Option (Nat×Nat)} (hs:StepAt V.mer at_ behind place s)
  (hlen:st.length < 1048576) (hsm:∀ x,s=some x→x.1≤1048576∧x.2≤1048576):
  Calls Tryz.prog 117 #[at0 r,.int .i64 place] w (Steps w0 w r b at_ before behind (addO st s) va vb vc vs):=by
 have hstep:=stepAt_any w0 w r b V (hC.below hR.below) ⟨va,vb,vc,vs,hR⟩ hs.1
 have hI:=hR
 clear hR
 have HR:=Lib.hid hI
 have HS:=Lib.hid hstep
 have HP:=Lib.hid hs.2
 have HSM:=Lib.hid hsm
 have HSO:=Lib.hid hsort
 have HSF:=Lib.hid hI.stF
 clear hstep hC hs hsm hsort hI
 unfold at0
 go_enter Tryz.func117,Tryz.ntmps117
 cases s with
 | none=>
  go_wp2_with (go_at_call 113;refine HS.out.mono ?_;rintro e w1 ⟨x,y,rfl,hk,hb⟩;have HB:=Lib.hid hb;clear hb hk)
  go_end0
  exact ⟨rfl,vs,(HR.out.then HB.out).then ((Below.refl _ w1).alloc (Nat.le_refl _) _),.below (below_then HB.out ((Below.refl _ w1).alloc (Nat.le_refl _) _) HB.out.size) _ _⟩
 | some sp=>
  obtain ⟨k,p⟩:=sp
  obtain rfl:place=p:=HP.out k p rfl
  have hkp:=HSM.out (k,p) rfl
  obtain ⟨I,hI⟩:∃ I,I=idxS st (k,p):=⟨_,rfl⟩
  have hIl:I≤st.length:=by rw [hI];exact idxS_le _ _
  have hds:(st.flatMap stV).take (I * 2)++[.int .i64 k,.int .i64 p]++(st.flatMap stV).drop (I * 2)=(addS st (k,p)).flatMap stV:=by
   unfold addS
   rw [← hI,List.flatMap_append,List.flatMap_cons,stV_take,stV_drop,List.append_assoc]
   rfl
  have hll:(addS st (k,p)).length=st.length+1:=by
   unfold addS
   rw [← hI,List.length_append,List.length_cons,List.length_take,List.length_drop]
   omega
  have HF:Hid (∀ s∈addS st (k,p),s.1≤1048576∧s.2≤1048576):=Lib.hid (fun s hs=>by
   unfold addS at hs
   rcases List.mem_append.1 hs with h | h
   ·exact HSF.out s (List.mem_of_mem_take h)
   ·rcases List.mem_cons.1 h with rfl | h
    ·exact hkp
    ·exact HSF.out s (List.mem_of_mem_drop h))
  have HI:=Lib.hid hI
  have HD:=Lib.hid hds
  have HL:=Lib.hid hll
  clear hI hds hll hkp
  go_wp2_with fail
  refine HS.out.mono ?_
  rintro e w1 ⟨x,y,rfl,hk,hb⟩
  obtain ⟨rfl,rfl⟩:=hk k rfl
  have b1:Below w1.heap.size w1 (w1.alloc (.cells #[.int .i64 k,.int .i64 p] 201)):=(Below.refl _ w1).alloc (Nat.le_refl _) _
  obtain ⟨W2,hW2⟩:∃ W2,W2=w1.alloc (.cells #[.int .i64 k,.int .i64 p] 201):=⟨_,rfl⟩
  have HST:Hid (Blk W2 w1.heap.size 201 #[.int .i64 k,.int .i64 p]):=Lib.hid (by rw [hW2];exact Blk.new _ _ _)
  rw [← hW2] at b1
  have HNS:Hid (vs.ownBlock≠some w1.heap.size):=Lib.hid (fun e=>Nat.lt_irrefl _ ((HR.out.then hb).stR.lt _ e).2)
  have HNR:Hid (w1.heap.size≠r):=Lib.hid (fun e=>by have:=(HR.out.then hb).blk.lt;omega)
  have HB:=Lib.hid ((HR.out.then hb).then b1)
  have HK:=Lib.hid (below_then hb b1 hb.size)
  have HW2:=Lib.hid hW2
  clear hb b1 hk hW2
  go_wp2_with fail
  rw [← HW2.out]
  refine wp_region_held_drew (S:=fun w'=>w'.cell? ⟨w1.heap.size,0,none⟩=some (.int .i64 k)∧w'.cell? ⟨w1.heap.size,1,none⟩=some (.int .i64 p)) (by kernel_rfl) (two_cells HST.out) (fun hHeld=>?_)
  obtain ⟨u0,hu0⟩:∃ z,z=W2.drew:=⟨_,rfl⟩
  rw [← hu0] at hHeld ⊢
  have hb0:Below W2.heap.size W2 u0:=by rw [hu0];exact (Below.refl _ W2).drew
  have HR0:=Lib.hid (HB.out.then hb0)
  have HST0:=Lib.hid (HST.out.below hb0 HST.out.lt)
  have HK0:=Lib.hid (below_then HK.out hb0 HK.out.size)
  clear hu0 hb0
  refine wpAnyH_take (i:=0) (oi:=?oit10) (v:=?vt10) ?hit10 (by kernel_rfl) (by kernel_rfl) (by kernel_rfl) ?hQt10 (Or.inl ⟨?hwt10,?hyt10⟩) (by assumption) ?restt10
  case hit10=>(first | (simp only [lz0,lz1,lz2];rfl) | rfl)
  case hQt10=>exact fun _ _ _ h=>h
  case hwt10=>rfl
  case hyt10=>((intro w hSw;go_simp);first | done | with_reducible rfl)
  try simp only [Act.put,lz3,lz4,lz5]
  refine wpAnyH_take (i:=1) (oi:=?oit21) (v:=?vt21) ?hit21 (by kernel_rfl) (by kernel_rfl) (by kernel_rfl) ?hQt21 (Or.inl ⟨?hwt21,?hyt21⟩) (by assumption) ?restt21
  case hit21=>(first | (simp only [lz0,lz1,lz2];rfl) | rfl)
  case hQt21=>exact fun _ _ _ h=>h
  case hwt21=>rfl
  case hyt21=>((intro w hSw;go_simp);first | done | with_reducible rfl)
  try simp only [Act.put,lz3,lz4,lz5]
  refine wpAnyH_take (i:=5) (oi:=?oit35) (v:=?vt35) ?hit35 (by kernel_rfl) (by kernel_rfl) (by kernel_rfl) ?hQt35 (Or.inl ⟨?hwt35,?hyt35⟩) (by assumption) ?restt35
  case hit35=>(first | (simp only [lz0,lz1,lz2];rfl) | rfl)
  case hQt35=>exact fun _ _ _ h=>h
  case hwt35=>rfl
  case hyt35=>((intro w hSw;go_simp);first | done | with_reducible rfl)
  try simp only [Act.put,lz3,lz4,lz5]
  refine wpAnyH_take (i:=6) (oi:=?oit46) (v:=?vt46) ?hit46 (by kernel_rfl) (by kernel_rfl) (by kernel_rfl) ?hQt46 (Or.inl ⟨?hwt46,?hyt46⟩) (by assumption) ?restt46
  case hit46=>(first | (simp only [lz0,lz1,lz2];rfl) | rfl)
  case hQt46=>exact fun _ _ _ h=>h
  case hwt46=>rfl
  case hyt46=>((intro w hSw;go_simp);first | done | with_reducible rfl)
  try simp only [Act.put,lz3,lz4,lz5]
  refine wpAnyH_take (i:=8) (oi:=?oit58) (v:=?vt58) ?hit58 (by kernel_rfl) (by kernel_rfl) (by kernel_rfl) ?hQt58 (Or.inl ⟨?hwt58,?hyt58⟩) (by assumption) ?restt58
  case hit58=>(first | (simp only [lz0,lz1,lz2];rfl) | rfl)
  case hQt58=>exact fun _ _ _ h=>h
  case hwt58=>rfl
  case hyt58=>((intro w hSw;go_simp);first | done | with_reducible rfl)
  try simp only [Act.put,lz3,lz4,lz5]
  refine wpAnyH_take (i:=2) (oi:=?oit62) (v:=?vt62) ?hit62 (by kernel_rfl) (by kernel_rfl) (by kernel_rfl) ?hQt62 (Or.inl ⟨?hwt62,?hyt62⟩) (by assumption) ?restt62
  case hit62=>(first | (simp only [lz0,lz1,lz2];rfl) | rfl)
  case hQt62=>exact fun _ _ _ h=>h
  case hwt62=>rfl
  case hyt62=>((intro w hSw;go_simp);first | done | with_reducible rfl)
  try simp only [Act.put,lz3,lz4,lz5]
  refine wpAnyH_take (i:=3) (oi:=?oit73) (v:=?vt73) ?hit73 (by kernel_rfl) (by kernel_rfl) (by kernel_rfl) ?hQt73 (Or.inl ⟨?hwt73,?hyt73⟩) (by assumption) ?restt73
  case hit73=>(first | (simp only [lz0,lz1,lz2];rfl) | rfl)
  case hQt73=>exact fun _ _ _ h=>h
  case hwt73=>rfl
  case hyt73=>((intro w hSw;go_simp);first | done | with_reducible rfl)
  try simp only [Act.put,lz3,lz4,lz5]
  refine wpAnyH_ready (rs:=[4,7,9]) (by kernel_rfl) (by simp) ?_
  refine AllReadyH.cons (o:=?ot8) ?ht8 ?st8 (AllReadyH.cons (o:=?ot9) ?ht9 ?st9 (AllReadyH.cons (o:=?ot10) ?ht10 ?st10 AllReadyH.nil))
  case ht8=>(simp only [lz0,lz1,lz2];rfl)
  case ht9=>(simp only [lz0,lz1,lz2];rfl)
  case ht10=>(simp only [lz0,lz1,lz2];rfl)
  case st8=>
   intro K hK
   have yq1:u0.cell? ⟨r,4,none⟩=some vs:=by have:=HR0.out.blk.cell 4;simpa using this
   go_simp
   clear yq1
   refine hK.out _ _ (two_cells HST0.out) (fun ht11=>?_)
   clear hK K
   try simp only [Act.put,lz3,lz4,lz5]
   refine wpAnyH_ready (rs:=[7,9]) (by kernel_rfl) (by simp) ?_
   refine AllReadyH.cons (o:=?ot12) ?ht12 ?st12 (AllReadyH.cons (o:=?ot13) ?ht13 ?st13 AllReadyH.nil)
   case ht12=>(simp only [lz0,lz1,lz2];rfl)
   case ht13=>(simp only [lz0,lz1,lz2];rfl)
   case st12=>
    intro K hK
    go_simp
    refine (find_any w0 _ r b ⟨va,vb,vc,vs,HR0.out⟩ HSO.out (k,p)).mono ?_
    rintro eq7 uq2 ⟨rfl,hq3⟩
    rw [← HI.out]
    have Rq4:=Lib.hid (HR0.out.then hq3)
    have Tq5:=Lib.hid (HST0.out.below hq3 HST0.out.lt)
    have Kq8:=Lib.hid (below_then HK0.out hq3 HK0.out.size)
    clear hq3
    go_wp2_with fail
    refine hK.out _ _ (two_cells Tq5.out) (fun ht14=>?_)
    clear hK K
    try simp only [Act.put,lz3,lz4,lz5]
    refine wpAnyH_ready (rs:=[9]) (by kernel_rfl) (by simp) ?_
    refine AllReadyH.cons (o:=?ot15) ?ht15 ?st15 AllReadyH.nil
    case ht15=>(simp only [lz0,lz1,lz2];rfl)
    case st15=>
     intro K hK
     go_simp
     obtain ⟨uq9,huq10⟩:∃ z,z=uq2.alloc (.cells #[.int .i64 k,.int .i64 p] 201):=⟨_,rfl⟩
     have Nq14:Hid (Blk uq9 uq2.heap.size 201 #[.int .i64 k,.int .i64 p]):=Lib.hid (by rw [huq10];exact Blk.new _ _ _)
     rw [← huq10]
     have hbq11:Below uq2.heap.size uq2 uq9:=by rw [huq10];exact (Below.refl _ uq2).alloc (Nat.le_refl _) _
     have NEq15:Hid (vs.ownBlock≠some uq2.heap.size):=Lib.hid (fun e=>Nat.lt_irrefl _ (Rq4.out.stR.lt _ e).2)
     have Rq12:=Lib.hid (Rq4.out.then hbq11)
     have Tq13:=Lib.hid (Tq5.out.below hbq11 Tq5.out.lt)
     have Kq16:=Lib.hid (below_then Kq8.out hbq11 Kq8.out.size)
     clear huq10 hbq11
     refine hK.out _ _ (two_cells Tq13.out) (fun ht16=>?_)
     clear hK K
     try simp only [Act.put,lz3,lz4,lz5]
     refine wpAnyH_ready (rs:=[10]) (by kernel_rfl) (by simp) ?_
     refine AllReadyH.cons (o:=?ot17) ?ht17 ?st17 AllReadyH.nil
     case ht17=>(simp only [lz0,lz1,lz2];rfl)
     case st17=>
      intro K hK
      go_simp
      refine (ins_any _ w0.heap.size vs st.length (st.flatMap stV) Rq12.out.stR (stV_one st) I hIl (by omega) _ (.int .i64 k) (.int .i64 p) Nq14.out NEq15.out rfl rfl Rq12.out.below.size).mono ?_
      rintro eq18 uq17 ⟨v',rfl,hwq19,hgq20,hlq21⟩
      obtain ⟨Aq24,cq25,rfl⟩:=own_slice hwq19
      rw [HD.out] at hwq19
      have Bq22:=Lib.hid (Rq12.out.blk.grown hgq20 (fun e=>own_blk_ne Rq12.out.stR Rq12.out.blk (by decide) e.symm))
      have Tq23:=Lib.hid (Tq13.out.grown hgq20 (fun e=>HNS.out e.symm))
      have Hhwq19:=Lib.hid hwq19
      have Hhgq20:=Lib.hid hgq20
      have Hhlq21:=Lib.hid hlq21
      clear hwq19 hgq20 hlq21
      go_wp2_with fail
      refine hK.out _ _ (two_cells Tq23.out) (fun ht18=>?_)
      clear hK K
      try simp only [Act.put,lz3,lz4,lz5]
      refine wpAnyH_take (i:=11) (oi:=?oit1911) (v:=?vt1911) ?hit1911 (by kernel_rfl) (by kernel_rfl) (by kernel_rfl) ?hQt1911 (Or.inl ⟨?hwt1911,?hyt1911⟩) (by assumption) ?restt1911
      case hit1911=>(first | (simp only [lz0,lz1,lz2];rfl) | rfl)
      case hQt1911=>exact fun _ _ _ h=>h
      case hwt1911=>rfl
      case hyt1911=>((intro w hSw;go_simp);first | done | with_reducible rfl)
      try simp only [Act.put,lz3,lz4,lz5]
      refine wpAnyH_take (i:=12) (oi:=?oit2012) (v:=?vt2012) ?hit2012 (by kernel_rfl) (by kernel_rfl) (by kernel_rfl) ?hQt2012 (Or.inl ⟨?hwt2012,?hyt2012⟩) (by assumption) ?restt2012
      case hit2012=>(first | (simp only [lz0,lz1,lz2];rfl) | rfl)
      case hQt2012=>exact fun _ _ _ h=>h
      case hwt2012=>rfl
      case hyt2012=>((intro w hSw;go_simp);first | done | with_reducible rfl)
      try simp only [Act.put,lz3,lz4,lz5]
      refine wpAnyH_ready (rs:=[13]) (by kernel_rfl) (by simp) ?_
      refine AllReadyH.cons (o:=?ot21) ?ht21 ?st21 AllReadyH.nil
      case ht21=>(simp only [lz0,lz1,lz2];rfl)
      case st21=>
       intro K hK
       have yq26:uq17.cell? ⟨r,4,none⟩=some vs:=by have:=Bq22.out.cell 4;simpa using this
       have zq27:=Bq22.out.frozen 4
       go_simp
       clear yq26 zq27
       have Fq28:=Lib.hid (Rq12.out.setSt (st':=addS st (k,p)) (vs':=(.slice Aq24 (st.length+1) cq25)) (w2:=uq17) (by rw [HL.out];exact Hhwq19.out) Hhgq20.out (by rw [HL.out];omega) HF.out)
       have Tq29:=Lib.hid (Tq23.out.far (p:=⟨r,4,none⟩) HNR.out (.slice Aq24 (st.length+1) cq25))
       have Kq30:=Lib.hid (StStep.set (r:=r) Kq16.out Hhgq20.out Hhlq21.out)
       refine hK.out _ _ (two_cells Tq29.out) (fun ht22=>?_)
       clear hK K
       try simp only [Act.put,lz3,lz4,lz5]
       refine wpAnyH_done (by kernel_rfl) ?_ _
       go_wp2_with fail
       go_end0
       exact ⟨rfl,_,Fq28.out,Kq30.out⟩
   case st13=>
    intro K hK
    go_simp
    obtain ⟨uq31,huq32⟩:∃ z,z=u0.alloc (.cells #[.int .i64 k,.int .i64 p] 201):=⟨_,rfl⟩
    have Nq36:Hid (Blk uq31 u0.heap.size 201 #[.int .i64 k,.int .i64 p]):=Lib.hid (by rw [huq32];exact Blk.new _ _ _)
    rw [← huq32]
    have hbq33:Below u0.heap.size u0 uq31:=by rw [huq32];exact (Below.refl _ u0).alloc (Nat.le_refl _) _
    have NEq37:Hid (vs.ownBlock≠some u0.heap.size):=Lib.hid (fun e=>Nat.lt_irrefl _ (HR0.out.stR.lt _ e).2)
    have Rq34:=Lib.hid (HR0.out.then hbq33)
    have Tq35:=Lib.hid (HST0.out.below hbq33 HST0.out.lt)
    have Kq38:=Lib.hid (below_then HK0.out hbq33 HK0.out.size)
    clear huq32 hbq33
    refine hK.out _ _ (two_cells Tq35.out) (fun ht23=>?_)
    clear hK K
    try simp only [Act.put,lz3,lz4,lz5]
    refine wpAnyH_ready (rs:=[7]) (by kernel_rfl) (by simp) ?_
    refine AllReadyH.cons (o:=?ot24) ?ht24 ?st24 AllReadyH.nil
    case ht24=>(simp only [lz0,lz1,lz2];rfl)
    case st24=>
     intro K hK
     go_simp
     refine (find_any w0 _ r b ⟨va,vb,vc,vs,Rq34.out⟩ HSO.out (k,p)).mono ?_
     rintro eq44 uq39 ⟨rfl,hq40⟩
     rw [← HI.out]
     have Rq41:=Lib.hid (Rq34.out.then hq40)
     have Tq42:=Lib.hid (Tq35.out.below hq40 Tq35.out.lt)
     have Kq45:=Lib.hid (below_then Kq38.out hq40 Kq38.out.size)
     have Nq43:=Lib.hid (Nq36.out.below hq40 Nq36.out.lt)
     clear hq40
     go_wp2_with fail
     refine hK.out _ _ (two_cells Tq42.out) (fun ht25=>?_)
     clear hK K
     try simp only [Act.put,lz3,lz4,lz5]
     refine wpAnyH_ready (rs:=[10]) (by kernel_rfl) (by simp) ?_
     refine AllReadyH.cons (o:=?ot26) ?ht26 ?st26 AllReadyH.nil
     case ht26=>(simp only [lz0,lz1,lz2];rfl)
     case st26=>
      intro K hK
      go_simp
      refine (ins_any _ w0.heap.size vs st.length (st.flatMap stV) Rq41.out.stR (stV_one st) I hIl (by omega) _ (.int .i64 k) (.int .i64 p) Nq43.out NEq37.out rfl rfl Rq41.out.below.size).mono ?_
      rintro eq47 uq46 ⟨v',rfl,hwq48,hgq49,hlq50⟩
      obtain ⟨Aq53,cq54,rfl⟩:=own_slice hwq48
      rw [HD.out] at hwq48
      have Bq51:=Lib.hid (Rq41.out.blk.grown hgq49 (fun e=>own_blk_ne Rq41.out.stR Rq41.out.blk (by decide) e.symm))
      have Tq52:=Lib.hid (Tq42.out.grown hgq49 (fun e=>HNS.out e.symm))
      have Hhwq48:=Lib.hid hwq48
      have Hhgq49:=Lib.hid hgq49
      have Hhlq50:=Lib.hid hlq50
      clear hwq48 hgq49 hlq50
      go_wp2_with fail
      refine hK.out _ _ (two_cells Tq52.out) (fun ht27=>?_)
      clear hK K
      try simp only [Act.put,lz3,lz4,lz5]
      refine wpAnyH_take (i:=11) (oi:=?oit2811) (v:=?vt2811) ?hit2811 (by kernel_rfl) (by kernel_rfl) (by kernel_rfl) ?hQt2811 (Or.inl ⟨?hwt2811,?hyt2811⟩) (by assumption) ?restt2811
      case hit2811=>(first | (simp only [lz0,lz1,lz2];rfl) | rfl)
      case hQt2811=>exact fun _ _ _ h=>h
      case hwt2811=>rfl
      case hyt2811=>((intro w hSw;go_simp);first | done | with_reducible rfl)
      try simp only [Act.put,lz3,lz4,lz5]
      refine wpAnyH_take (i:=12) (oi:=?oit2912) (v:=?vt2912) ?hit2912 (by kernel_rfl) (by kernel_rfl) (by kernel_rfl) ?hQt2912 (Or.inl ⟨?hwt2912,?hyt2912⟩) (by assumption) ?restt2912
      case hit2912=>(first | (simp only [lz0,lz1,lz2];rfl) | rfl)
      case hQt2912=>exact fun _ _ _ h=>h
      case hwt2912=>rfl
      case hyt2912=>((intro w hSw;go_simp);first | done | with_reducible rfl)
      try simp only [Act.put,lz3,lz4,lz5]
      refine wpAnyH_ready (rs:=[13]) (by kernel_rfl) (by simp) ?_
      refine AllReadyH.cons (o:=?ot30) ?ht30 ?st30 AllReadyH.nil
      case ht30=>(simp only [lz0,lz1,lz2];rfl)
      case st30=>
       intro K hK
       have yq55:uq46.cell? ⟨r,4,none⟩=some vs:=by have:=Bq51.out.cell 4;simpa using this
       have zq56:=Bq51.out.frozen 4
       go_simp
       clear yq55 zq56
       have Fq57:=Lib.hid (Rq41.out.setSt (st':=addS st (k,p)) (vs':=(.slice Aq53 (st.length+1) cq54)) (w2:=uq46) (by rw [HL.out];exact Hhwq48.out) Hhgq49.out (by rw [HL.out];omega) HF.out)
       have Tq58:=Lib.hid (Tq52.out.far (p:=⟨r,4,none⟩) HNR.out (.slice Aq53 (st.length+1) cq54))
       have Kq59:=Lib.hid (StStep.set (r:=r) Kq45.out Hhgq49.out Hhlq50.out)
       refine hK.out _ _ (two_cells Tq58.out) (fun ht31=>?_)
       clear hK K
       try simp only [Act.put,lz3,lz4,lz5]
       refine wpAnyH_done (by kernel_rfl) ?_ _
       go_wp2_with fail
       go_end0
       exact ⟨rfl,_,Fq57.out,Kq59.out⟩
  case st9=>
   intro K hK
   go_simp
   refine (find_any w0 _ r b ⟨va,vb,vc,vs,HR0.out⟩ HSO.out (k,p)).mono ?_
   rintro eq65 uq60 ⟨rfl,hq61⟩
   rw [← HI.out]
   have Rq62:=Lib.hid (HR0.out.then hq61)
   have Tq63:=Lib.hid (HST0.out.below hq61 HST0.out.lt)
   have Kq66:=Lib.hid (below_then HK0.out hq61 HK0.out.size)
   clear hq61
   go_wp2_with fail
   refine hK.out _ _ (two_cells Tq63.out) (fun ht32=>?_)
   clear hK K
   try simp only [Act.put,lz3,lz4,lz5]
   refine wpAnyH_ready (rs:=[4,9]) (by kernel_rfl) (by simp) ?_
   refine AllReadyH.cons (o:=?ot33) ?ht33 ?st33 (AllReadyH.cons (o:=?ot34) ?ht34 ?st34 AllReadyH.nil)
   case ht33=>(simp only [lz0,lz1,lz2];rfl)
   case ht34=>(simp only [lz0,lz1,lz2];rfl)
   case st33=>
    intro K hK
    have yq67:uq60.cell? ⟨r,4,none⟩=some vs:=by have:=Rq62.out.blk.cell 4;simpa using this
    go_simp
    clear yq67
    refine hK.out _ _ (two_cells Tq63.out) (fun ht35=>?_)
    clear hK K
    try simp only [Act.put,lz3,lz4,lz5]
    refine wpAnyH_ready (rs:=[9]) (by kernel_rfl) (by simp) ?_
    refine AllReadyH.cons (o:=?ot36) ?ht36 ?st36 AllReadyH.nil
    case ht36=>(simp only [lz0,lz1,lz2];rfl)
    case st36=>
     intro K hK
     go_simp
     obtain ⟨uq68,huq69⟩:∃ z,z=uq60.alloc (.cells #[.int .i64 k,.int .i64 p] 201):=⟨_,rfl⟩
     have Nq73:Hid (Blk uq68 uq60.heap.size 201 #[.int .i64 k,.int .i64 p]):=Lib.hid (by rw [huq69];exact Blk.new _ _ _)
     rw [← huq69]
     have hbq70:Below uq60.heap.size uq60 uq68:=by rw [huq69];exact (Below.refl _ uq60).alloc (Nat.le_refl _) _
     have NEq74:Hid (vs.ownBlock≠some uq60.heap.size):=Lib.hid (fun e=>Nat.lt_irrefl _ (Rq62.out.stR.lt _ e).2)
     have Rq71:=Lib.hid (Rq62.out.then hbq70)
     have Tq72:=Lib.hid (Tq63.out.below hbq70 Tq63.out.lt)
     have Kq75:=Lib.hid (below_then Kq66.out hbq70 Kq66.out.size)
     clear huq69 hbq70
     refine hK.out _ _ (two_cells Tq72.out) (fun ht37=>?_)
     clear hK K
     try simp only [Act.put,lz3,lz4,lz5]
     refine wpAnyH_ready (rs:=[10]) (by kernel_rfl) (by simp) ?_
     refine AllReadyH.cons (o:=?ot38) ?ht38 ?st38 AllReadyH.nil
     case ht38=>(simp only [lz0,lz1,lz2];rfl)
     case st38=>
      intro K hK
      go_simp
      refine (ins_any _ w0.heap.size vs st.length (st.flatMap stV) Rq71.out.stR (stV_one st) I hIl (by omega) _ (.int .i64 k) (.int .i64 p) Nq73.out NEq74.out rfl rfl Rq71.out.below.size).mono ?_
      rintro eq77 uq76 ⟨v',rfl,hwq78,hgq79,hlq80⟩
      obtain ⟨Aq83,cq84,rfl⟩:=own_slice hwq78
      rw [HD.out] at hwq78
      have Bq81:=Lib.hid (Rq71.out.blk.grown hgq79 (fun e=>own_blk_ne Rq71.out.stR Rq71.out.blk (by decide) e.symm))
      have Tq82:=Lib.hid (Tq72.out.grown hgq79 (fun e=>HNS.out e.symm))
      have Hhwq78:=Lib.hid hwq78
      have Hhgq79:=Lib.hid hgq79
      have Hhlq80:=Lib.hid hlq80
      clear hwq78 hgq79 hlq80
      go_wp2_with fail
      refine hK.out _ _ (two_cells Tq82.out) (fun ht39=>?_)
      clear hK K
      try simp only [Act.put,lz3,lz4,lz5]
      refine wpAnyH_take (i:=11) (oi:=?oit4011) (v:=?vt4011) ?hit4011 (by kernel_rfl) (by kernel_rfl) (by kernel_rfl) ?hQt4011 (Or.inl ⟨?hwt4011,?hyt4011⟩) (by assumption) ?restt4011
      case hit4011=>(first | (simp only [lz0,lz1,lz2];rfl) | rfl)
      case hQt4011=>exact fun _ _ _ h=>h
      case hwt4011=>rfl
      case hyt4011=>((intro w hSw;go_simp);first | done | with_reducible rfl)
      try simp only [Act.put,lz3,lz4,lz5]
      refine wpAnyH_take (i:=12) (oi:=?oit4112) (v:=?vt4112) ?hit4112 (by kernel_rfl) (by kernel_rfl) (by kernel_rfl) ?hQt4112 (Or.inl ⟨?hwt4112,?hyt4112⟩) (by assumption) ?restt4112
      case hit4112=>(first | (simp only [lz0,lz1,lz2];rfl) | rfl)
      case hQt4112=>exact fun _ _ _ h=>h
      case hwt4112=>rfl
      case hyt4112=>((intro w hSw;go_simp);first | done | with_reducible rfl)
      try simp only [Act.put,lz3,lz4,lz5]
      refine wpAnyH_ready (rs:=[13]) (by kernel_rfl) (by simp) ?_
      refine AllReadyH.cons (o:=?ot42) ?ht42 ?st42 AllReadyH.nil
      case ht42=>(simp only [lz0,lz1,lz2];rfl)
      case st42=>
       intro K hK
       have yq85:uq76.cell? ⟨r,4,none⟩=some vs:=by have:=Bq81.out.cell 4;simpa using this
       have zq86:=Bq81.out.frozen 4
       go_simp
       clear yq85 zq86
       have Fq87:=Lib.hid (Rq71.out.setSt (st':=addS st (k,p)) (vs':=(.slice Aq83 (st.length+1) cq84)) (w2:=uq76) (by rw [HL.out];exact Hhwq78.out) Hhgq79.out (by rw [HL.out];omega) HF.out)
       have Tq88:=Lib.hid (Tq82.out.far (p:=⟨r,4,none⟩) HNR.out (.slice Aq83 (st.length+1) cq84))
       have Kq89:=Lib.hid (StStep.set (r:=r) Kq75.out Hhgq79.out Hhlq80.out)
       refine hK.out _ _ (two_cells Tq88.out) (fun ht43=>?_)
       clear hK K
       try simp only [Act.put,lz3,lz4,lz5]
       refine wpAnyH_done (by kernel_rfl) ?_ _
       go_wp2_with fail
       go_end0
       exact ⟨rfl,_,Fq87.out,Kq89.out⟩
   case st34=>
    intro K hK
    go_simp
    obtain ⟨uq90,huq91⟩:∃ z,z=uq60.alloc (.cells #[.int .i64 k,.int .i64 p] 201):=⟨_,rfl⟩
    have Nq95:Hid (Blk uq90 uq60.heap.size 201 #[.int .i64 k,.int .i64 p]):=Lib.hid (by rw [huq91];exact Blk.new _ _ _)
    rw [← huq91]
    have hbq92:Below uq60.heap.size uq60 uq90:=by rw [huq91];exact (Below.refl _ uq60).alloc (Nat.le_refl _) _
    have NEq96:Hid (vs.ownBlock≠some uq60.heap.size):=Lib.hid (fun e=>Nat.lt_irrefl _ (Rq62.out.stR.lt _ e).2)
    have Rq93:=Lib.hid (Rq62.out.then hbq92)
    have Tq94:=Lib.hid (Tq63.out.below hbq92 Tq63.out.lt)
    have Kq97:=Lib.hid (below_then Kq66.out hbq92 Kq66.out.size)
    clear huq91 hbq92
    refine hK.out _ _ (two_cells Tq94.out) (fun ht44=>?_)
    clear hK K
    try simp only [Act.put,lz3,lz4,lz5]
    refine wpAnyH_ready (rs:=[4]) (by kernel_rfl) (by simp) ?_
    refine AllReadyH.cons (o:=?ot45) ?ht45 ?st45 AllReadyH.nil
    case ht45=>(simp only [lz0,lz1,lz2];rfl)
    case st45=>
     intro K hK
     have yq98:uq90.cell? ⟨r,4,none⟩=some vs:=by have:=Rq93.out.blk.cell 4;simpa using this
     go_simp
     clear yq98
     refine hK.out _ _ (two_cells Tq94.out) (fun ht46=>?_)
     clear hK K
     try simp only [Act.put,lz3,lz4,lz5]
     refine wpAnyH_ready (rs:=[10]) (by kernel_rfl) (by simp) ?_
     refine AllReadyH.cons (o:=?ot47) ?ht47 ?st47 AllReadyH.nil
     case ht47=>(simp only [lz0,lz1,lz2];rfl)
     case st47=>
      intro K hK
      go_simp
      refine (ins_any _ w0.heap.size vs st.length (st.flatMap stV) Rq93.out.stR (stV_one st) I hIl (by omega) _ (.int .i64 k) (.int .i64 p) Nq95.out NEq96.out rfl rfl Rq93.out.below.size).mono ?_
      rintro eq100 uq99 ⟨v',rfl,hwq101,hgq102,hlq103⟩
      obtain ⟨Aq106,cq107,rfl⟩:=own_slice hwq101
      rw [HD.out] at hwq101
      have Bq104:=Lib.hid (Rq93.out.blk.grown hgq102 (fun e=>own_blk_ne Rq93.out.stR Rq93.out.blk (by decide) e.symm))
      have Tq105:=Lib.hid (Tq94.out.grown hgq102 (fun e=>HNS.out e.symm))
      have Hhwq101:=Lib.hid hwq101
      have Hhgq102:=Lib.hid hgq102
      have Hhlq103:=Lib.hid hlq103
      clear hwq101 hgq102 hlq103
      go_wp2_with fail
      refine hK.out _ _ (two_cells Tq105.out) (fun ht48=>?_)
      clear hK K
      try simp only [Act.put,lz3,lz4,lz5]
      refine wpAnyH_take (i:=11) (oi:=?oit4911) (v:=?vt4911) ?hit4911 (by kernel_rfl) (by kernel_rfl) (by kernel_rfl) ?hQt4911 (Or.inl ⟨?hwt4911,?hyt4911⟩) (by assumption) ?restt4911
      case hit4911=>(first | (simp only [lz0,lz1,lz2];rfl) | rfl)
      case hQt4911=>exact fun _ _ _ h=>h
      case hwt4911=>rfl
      case hyt4911=>((intro w hSw;go_simp);first | done | with_reducible rfl)
      try simp only [Act.put,lz3,lz4,lz5]
      refine wpAnyH_take (i:=12) (oi:=?oit5012) (v:=?vt5012) ?hit5012 (by kernel_rfl) (by kernel_rfl) (by kernel_rfl) ?hQt5012 (Or.inl ⟨?hwt5012,?hyt5012⟩) (by assumption) ?restt5012
      case hit5012=>(first | (simp only [lz0,lz1,lz2];rfl) | rfl)
      case hQt5012=>exact fun _ _ _ h=>h
      case hwt5012=>rfl
      case hyt5012=>((intro w hSw;go_simp);first | done | with_reducible rfl)
      try simp only [Act.put,lz3,lz4,lz5]
      refine wpAnyH_ready (rs:=[13]) (by kernel_rfl) (by simp) ?_
      refine AllReadyH.cons (o:=?ot51) ?ht51 ?st51 AllReadyH.nil
      case ht51=>(simp only [lz0,lz1,lz2];rfl)
      case st51=>
       intro K hK
       have yq108:uq99.cell? ⟨r,4,none⟩=some vs:=by have:=Bq104.out.cell 4;simpa using this
       have zq109:=Bq104.out.frozen 4
       go_simp
       clear yq108 zq109
       have Fq110:=Lib.hid (Rq93.out.setSt (st':=addS st (k,p)) (vs':=(.slice Aq106 (st.length+1) cq107)) (w2:=uq99) (by rw [HL.out];exact Hhwq101.out) Hhgq102.out (by rw [HL.out];omega) HF.out)
       have Tq111:=Lib.hid (Tq105.out.far (p:=⟨r,4,none⟩) HNR.out (.slice Aq106 (st.length+1) cq107))
       have Kq112:=Lib.hid (StStep.set (r:=r) Kq97.out Hhgq102.out Hhlq103.out)
       refine hK.out _ _ (two_cells Tq111.out) (fun ht52=>?_)
       clear hK K
       try simp only [Act.put,lz3,lz4,lz5]
       refine wpAnyH_done (by kernel_rfl) ?_ _
       go_wp2_with fail
       go_end0
       exact ⟨rfl,_,Fq110.out,Kq112.out⟩
  case st10=>
   intro K hK
   go_simp
   obtain ⟨uq113,huq114⟩:∃ z,z=u0.alloc (.cells #[.int .i64 k,.int .i64 p] 201):=⟨_,rfl⟩
   have Nq118:Hid (Blk uq113 u0.heap.size 201 #[.int .i64 k,.int .i64 p]):=Lib.hid (by rw [huq114];exact Blk.new _ _ _)
   rw [← huq114]
   have hbq115:Below u0.heap.size u0 uq113:=by rw [huq114];exact (Below.refl _ u0).alloc (Nat.le_refl _) _
   have NEq119:Hid (vs.ownBlock≠some u0.heap.size):=Lib.hid (fun e=>Nat.lt_irrefl _ (HR0.out.stR.lt _ e).2)
   have Rq116:=Lib.hid (HR0.out.then hbq115)
   have Tq117:=Lib.hid (HST0.out.below hbq115 HST0.out.lt)
   have Kq120:=Lib.hid (below_then HK0.out hbq115 HK0.out.size)
   clear huq114 hbq115
   refine hK.out _ _ (two_cells Tq117.out) (fun ht53=>?_)
   clear hK K
   try simp only [Act.put,lz3,lz4,lz5]
   refine wpAnyH_ready (rs:=[4,7]) (by kernel_rfl) (by simp) ?_
   refine AllReadyH.cons (o:=?ot54) ?ht54 ?st54 (AllReadyH.cons (o:=?ot55) ?ht55 ?st55 AllReadyH.nil)
   case ht54=>(simp only [lz0,lz1,lz2];rfl)
   case ht55=>(simp only [lz0,lz1,lz2];rfl)
   case st54=>
    intro K hK
    have yq121:uq113.cell? ⟨r,4,none⟩=some vs:=by have:=Rq116.out.blk.cell 4;simpa using this
    go_simp
    clear yq121
    refine hK.out _ _ (two_cells Tq117.out) (fun ht56=>?_)
    clear hK K
    try simp only [Act.put,lz3,lz4,lz5]
    refine wpAnyH_ready (rs:=[7]) (by kernel_rfl) (by simp) ?_
    refine AllReadyH.cons (o:=?ot57) ?ht57 ?st57 AllReadyH.nil
    case ht57=>(simp only [lz0,lz1,lz2];rfl)
    case st57=>
     intro K hK
     go_simp
     refine (find_any w0 _ r b ⟨va,vb,vc,vs,Rq116.out⟩ HSO.out (k,p)).mono ?_
     rintro eq127 uq122 ⟨rfl,hq123⟩
     rw [← HI.out]
     have Rq124:=Lib.hid (Rq116.out.then hq123)
     have Tq125:=Lib.hid (Tq117.out.below hq123 Tq117.out.lt)
     have Kq128:=Lib.hid (below_then Kq120.out hq123 Kq120.out.size)
     have Nq126:=Lib.hid (Nq118.out.below hq123 Nq118.out.lt)
     clear hq123
     go_wp2_with fail
     refine hK.out _ _ (two_cells Tq125.out) (fun ht58=>?_)
     clear hK K
     try simp only [Act.put,lz3,lz4,lz5]
     refine wpAnyH_ready (rs:=[10]) (by kernel_rfl) (by simp) ?_
     refine AllReadyH.cons (o:=?ot59) ?ht59 ?st59 AllReadyH.nil
     case ht59=>(simp only [lz0,lz1,lz2];rfl)
     case st59=>
      intro K hK
      go_simp
      refine (ins_any _ w0.heap.size vs st.length (st.flatMap stV) Rq124.out.stR (stV_one st) I hIl (by omega) _ (.int .i64 k) (.int .i64 p) Nq126.out NEq119.out rfl rfl Rq124.out.below.size).mono ?_
      rintro eq130 uq129 ⟨v',rfl,hwq131,hgq132,hlq133⟩
      obtain ⟨Aq136,cq137,rfl⟩:=own_slice hwq131
      rw [HD.out] at hwq131
      have Bq134:=Lib.hid (Rq124.out.blk.grown hgq132 (fun e=>own_blk_ne Rq124.out.stR Rq124.out.blk (by decide) e.symm))
      have Tq135:=Lib.hid (Tq125.out.grown hgq132 (fun e=>HNS.out e.symm))
      have Hhwq131:=Lib.hid hwq131
      have Hhgq132:=Lib.hid hgq132
      have Hhlq133:=Lib.hid hlq133
      clear hwq131 hgq132 hlq133
      go_wp2_with fail
      refine hK.out _ _ (two_cells Tq135.out) (fun ht60=>?_)
      clear hK K
      try simp only [Act.put,lz3,lz4,lz5]
      refine wpAnyH_take (i:=11) (oi:=?oit6111) (v:=?vt6111) ?hit6111 (by kernel_rfl) (by kernel_rfl) (by kernel_rfl) ?hQt6111 (Or.inl ⟨?hwt6111,?hyt6111⟩) (by assumption) ?restt6111
      case hit6111=>(first | (simp only [lz0,lz1,lz2];rfl) | rfl)
      case hQt6111=>exact fun _ _ _ h=>h
      case hwt6111=>rfl
      case hyt6111=>((intro w hSw;go_simp);first | done | with_reducible rfl)
      try simp only [Act.put,lz3,lz4,lz5]
      refine wpAnyH_take (i:=12) (oi:=?oit6212) (v:=?vt6212) ?hit6212 (by kernel_rfl) (by kernel_rfl) (by kernel_rfl) ?hQt6212 (Or.inl ⟨?hwt6212,?hyt6212⟩) (by assumption) ?restt6212
      case hit6212=>(first | (simp only [lz0,lz1,lz2];rfl) | rfl)
      case hQt6212=>exact fun _ _ _ h=>h
      case hwt6212=>rfl
      case hyt6212=>((intro w hSw;go_simp);first | done | with_reducible rfl)
      try simp only [Act.put,lz3,lz4,lz5]
      refine wpAnyH_ready (rs:=[13]) (by kernel_rfl) (by simp) ?_
      refine AllReadyH.cons (o:=?ot63) ?ht63 ?st63 AllReadyH.nil
      case ht63=>(simp only [lz0,lz1,lz2];rfl)
      case st63=>
       intro K hK
       have yq138:uq129.cell? ⟨r,4,none⟩=some vs:=by have:=Bq134.out.cell 4;simpa using this
       have zq139:=Bq134.out.frozen 4
       go_simp
       clear yq138 zq139
       have Fq140:=Lib.hid (Rq124.out.setSt (st':=addS st (k,p)) (vs':=(.slice Aq136 (st.length+1) cq137)) (w2:=uq129) (by rw [HL.out];exact Hhwq131.out) Hhgq132.out (by rw [HL.out];omega) HF.out)
       have Tq141:=Lib.hid (Tq135.out.far (p:=⟨r,4,none⟩) HNR.out (.slice Aq136 (st.length+1) cq137))
       have Kq142:=Lib.hid (StStep.set (r:=r) Kq128.out Hhgq132.out Hhlq133.out)
       refine hK.out _ _ (two_cells Tq141.out) (fun ht64=>?_)
       clear hK K
       try simp only [Act.put,lz3,lz4,lz5]
       refine wpAnyH_done (by kernel_rfl) ?_ _
       go_wp2_with fail
       go_end0
       exact ⟨rfl,_,Fq140.out,Kq142.out⟩
   case st55=>
    intro K hK
    go_simp
    refine (find_any w0 _ r b ⟨va,vb,vc,vs,Rq116.out⟩ HSO.out (k,p)).mono ?_
    rintro eq148 uq143 ⟨rfl,hq144⟩
    rw [← HI.out]
    have Rq145:=Lib.hid (Rq116.out.then hq144)
    have Tq146:=Lib.hid (Tq117.out.below hq144 Tq117.out.lt)
    have Kq149:=Lib.hid (below_then Kq120.out hq144 Kq120.out.size)
    have Nq147:=Lib.hid (Nq118.out.below hq144 Nq118.out.lt)
    clear hq144
    go_wp2_with fail
    refine hK.out _ _ (two_cells Tq146.out) (fun ht65=>?_)
    clear hK K
    try simp only [Act.put,lz3,lz4,lz5]
    refine wpAnyH_ready (rs:=[4]) (by kernel_rfl) (by simp) ?_
    refine AllReadyH.cons (o:=?ot66) ?ht66 ?st66 AllReadyH.nil
    case ht66=>(simp only [lz0,lz1,lz2];rfl)
    case st66=>
     intro K hK
     have yq150:uq143.cell? ⟨r,4,none⟩=some vs:=by have:=Rq145.out.blk.cell 4;simpa using this
     go_simp
     clear yq150
     refine hK.out _ _ (two_cells Tq146.out) (fun ht67=>?_)
     clear hK K
     try simp only [Act.put,lz3,lz4,lz5]
     refine wpAnyH_ready (rs:=[10]) (by kernel_rfl) (by simp) ?_
     refine AllReadyH.cons (o:=?ot68) ?ht68 ?st68 AllReadyH.nil
     case ht68=>(simp only [lz0,lz1,lz2];rfl)
     case st68=>
      intro K hK
      go_simp
      refine (ins_any _ w0.heap.size vs st.length (st.flatMap stV) Rq145.out.stR (stV_one st) I hIl (by omega) _ (.int .i64 k) (.int .i64 p) Nq147.out NEq119.out rfl rfl Rq145.out.below.size).mono ?_
      rintro eq152 uq151 ⟨v',rfl,hwq153,hgq154,hlq155⟩
      obtain ⟨Aq158,cq159,rfl⟩:=own_slice hwq153
      rw [HD.out] at hwq153
      have Bq156:=Lib.hid (Rq145.out.blk.grown hgq154 (fun e=>own_blk_ne Rq145.out.stR Rq145.out.blk (by decide) e.symm))
      have Tq157:=Lib.hid (Tq146.out.grown hgq154 (fun e=>HNS.out e.symm))
      have Hhwq153:=Lib.hid hwq153
      have Hhgq154:=Lib.hid hgq154
      have Hhlq155:=Lib.hid hlq155
      clear hwq153 hgq154 hlq155
      go_wp2_with fail
      refine hK.out _ _ (two_cells Tq157.out) (fun ht69=>?_)
      clear hK K
      try simp only [Act.put,lz3,lz4,lz5]
      refine wpAnyH_take (i:=11) (oi:=?oit7011) (v:=?vt7011) ?hit7011 (by kernel_rfl) (by kernel_rfl) (by kernel_rfl) ?hQt7011 (Or.inl ⟨?hwt7011,?hyt7011⟩) (by assumption) ?restt7011
      case hit7011=>(first | (simp only [lz0,lz1,lz2];rfl) | rfl)
      case hQt7011=>exact fun _ _ _ h=>h
      case hwt7011=>rfl
      case hyt7011=>((intro w hSw;go_simp);first | done | with_reducible rfl)
      try simp only [Act.put,lz3,lz4,lz5]
      refine wpAnyH_take (i:=12) (oi:=?oit7112) (v:=?vt7112) ?hit7112 (by kernel_rfl) (by kernel_rfl) (by kernel_rfl) ?hQt7112 (Or.inl ⟨?hwt7112,?hyt7112⟩) (by assumption) ?restt7112
      case hit7112=>(first | (simp only [lz0,lz1,lz2];rfl) | rfl)
      case hQt7112=>exact fun _ _ _ h=>h
      case hwt7112=>rfl
      case hyt7112=>((intro w hSw;go_simp);first | done | with_reducible rfl)
      try simp only [Act.put,lz3,lz4,lz5]
      refine wpAnyH_ready (rs:=[13]) (by kernel_rfl) (by simp) ?_
      refine AllReadyH.cons (o:=?ot72) ?ht72 ?st72 AllReadyH.nil
      case ht72=>(simp only [lz0,lz1,lz2];rfl)
      case st72=>
       intro K hK
       have yq160:uq151.cell? ⟨r,4,none⟩=some vs:=by have:=Bq156.out.cell 4;simpa using this
       have zq161:=Bq156.out.frozen 4
       go_simp
       clear yq160 zq161
       have Fq162:=Lib.hid (Rq145.out.setSt (st':=addS st (k,p)) (vs':=(.slice Aq158 (st.length+1) cq159)) (w2:=uq151) (by rw [HL.out];exact Hhwq153.out) Hhgq154.out (by rw [HL.out];omega) HF.out)
       have Tq163:=Lib.hid (Tq157.out.far (p:=⟨r,4,none⟩) HNR.out (.slice Aq158 (st.length+1) cq159))
       have Kq164:=Lib.hid (StStep.set (r:=r) Kq149.out Hhgq154.out Hhlq155.out)
       refine hK.out _ _ (two_cells Tq163.out) (fun ht73=>?_)
       clear hK K
       try simp only [Act.put,lz3,lz4,lz5]
       refine wpAnyH_done (by kernel_rfl) ?_ _
       go_wp2_with fail
       go_end0
       exact ⟨rfl,_,Fq162.out,Kq164.out⟩
def NewOut (w:World) (b:Nat) (M:List Mg) (s:Nm) (e:Ending) (w':World):Prop:=
 ∃ r st,e=.returned (at0 r)∧Row w w' r b (bytesI s) (befI (s.length+1)) (behI s.length) st∧StOK st (stepSet M (bytesI s) (List.range (s.length+1)))∧st.length≤s.length
theorem newRow_any (w:World) (b:Nat) (V:Voc) (hC:Coder w b V) (A:Option Addr) (n c:Nat) (s:Nm) (hs:BytesIn w A n s) (hn:n≤1000000) (hM:V.mer.length≤1000000):
  Calls Tryz.prog 61 #[at0 b,.slice A n c] w (NewOut w b V.mer s):=by
 obtain ⟨i0,hi,hz0,hz1,hz2⟩:=info_parts intInfo1
 obtain ⟨j0,hj0,hy0,hy1,hy2⟩:=info_parts stepInfo
 have hsl:s.length=n:=by have:=hs.2.1.len;simpa using this
 have hO:=rowOK_init s
 rw [hsl] at hO
 obtain ⟨r,hr⟩:∃ r,r=w.heap.size:=⟨_,rfl⟩
 have hb1:Below w.heap.size w (w.alloc (.cells #[at0 b,.slice none 0 0,.slice none 0 0,.slice none 0 0,.slice none 0 0] 130)):=(Below.refl _ w).alloc (Nat.le_refl _) _
 have hR1:IsRow w (w.alloc (.cells #[at0 b,.slice none 0 0,.slice none 0 0,.slice none 0 0,.slice none 0 0] 130)) r b [] [] [] [] (.slice none 0 0) (.slice none 0 0) (.slice none 0 0) (.slice none 0 0):={
  blk:=by rw [hr];exact Blk.new _ _ _
  new:=by omega
  below:=hb1
  atR:=World.ownsRow_nil _ _ _ _
  befR:=World.ownsRow_nil _ _ _ _
  behR:=World.ownsRow_nil _ _ _ _
  stR:=World.ownsRow_nil _ _ _ _
  nab:=fun g h=>by simp [Value.ownBlock] at h
  nac:=fun g h=>by simp [Value.ownBlock] at h
  nbc:=fun g h=>by simp [Value.ownBlock] at h
  fits:=⟨by simp,by simp,by simp⟩
  small:=by simp
  stF:=by simp }
 have HC:=Lib.hid hC
 have HSB:=Lib.hid hs
 have HSL:=Lib.hid hsl
 have HO:=Lib.hid hO
 have HR1:=Lib.hid hR1
 have HRR:=Lib.hid hr
 clear hC hs hsl hO hb1 hR1
 unfold at0
 go_enter Tryz.func61,Tryz.ntmps61
 go_wp2_with fail
 rw [← hr]
 clear hr
 go_loopw [16] (fun i wr=>∃ (j:Nat) (va vb vc:Value),j≤n∧i=.int .i64 (j:Nat)∧IsRow w wr r b ((bytesI s).take j) (befI j) (behI j) [] va vb vc (.slice none 0 0)) (fun i _=>n - (intOf i).toNat)
 case atStart=>exact ⟨0,_,_,_,Nat.zero_le _,rfl,HR1.out⟩
 case round=>
  obtain ⟨j,va,vb,vc,hj,rfl,hR⟩:=hrel
  rcases Nat.lt_or_ge j n with hlt | hge
  ·obtain ⟨adx,x,e1,hx,xc⟩:=(HSB.out.below hR.below).at j hlt
   subst e1
   have hxl:x.toNat < 256:=x.toBitVec.isLt
   have hx0:(0:Int)≤(x.toNat:Int):=by omega
   have hx1:(x.toNat:Int) < 256:=by omega
   obtain ⟨L,hL⟩:∃ L,L=(bytesI s).take j:=⟨_,rfl⟩
   have htl:L.length=j:=by rw [hL,List.length_take,bytesI_len,HSL.out];omega
   have htk:(bytesI s).take (j+1)=L++[((x.toNat:Nat):Int)]:=by
    rw [hL,List.take_add_one]
    unfold bytesI
    rw [List.getElem?_map,hx]
    rfl
   rw [← hL] at hR
   have HR:=Lib.hid hR
   have HTL:=Lib.hid htl
   have HTK:=Lib.hid htk
   obtain ⟨Ac,Bc,ca,cb,bp,D,csC,hCC⟩:=HC.out
   have hcb:∀ w',Below w.heap.size w w'→w'.cell? ⟨b,2+x.toNat,none⟩=some (.int .i64 (x.toNat:Nat)):=fun w' hb=>by
    rw [(hCC.blk.below hb hCC.blk.lt).cell]
    exact hCC.cB x.toNat hxl
   have HCB:=Lib.hid hcb
   have hjz:(0:Int)≤(j:Int):=by omega
   have hjn:(j:Int) < (n:Int):=by omega
   have hjb:(j:Int)≤1000000:=by omega
   clear hR htl htk hcb hCC hx hL
   go_wp2_with fail
   clear xc
   refine wp_region_held_drew (S:=fun w'=>w'.cell? ⟨b,2+x.toNat,none⟩=some (.int .i64 (x.toNat:Nat))) (by kernel_rfl) (HCB.out _ HR.out.below.drew) (fun hHeld=>?_)
   obtain ⟨u0,hu0⟩:∃ z,z=wr.drew:=⟨_,rfl⟩
   rw [← hu0] at hHeld ⊢
   have hb0:Below wr.heap.size wr u0:=by rw [hu0];exact (Below.refl _ wr).drew
   have HR0:=Lib.hid (HR.out.then hb0)
   clear hu0 hb0
   refine wpAnyH_take (i:=0) (oi:=?oit10) (v:=?vt10) ?hit10 (by kernel_rfl) (by kernel_rfl) (by kernel_rfl) ?hQt10 (Or.inl ⟨?hwt10,?hyt10⟩) (by assumption) ?restt10
   case hit10=>(first | (simp only [lz0,lz1,lz2];rfl) | rfl)
   case hQt10=>exact fun _ _ _ h=>h
   case hwt10=>rfl
   case hyt10=>((intro w hSw;go_simp);first | done | with_reducible rfl)
   try simp only [Act.put,lz3,lz4,lz5]
   refine wpAnyH_take (i:=1) (oi:=?oit21) (v:=?vt21) ?hit21 (by kernel_rfl) (by kernel_rfl) (by kernel_rfl) ?hQt21 (Or.inl ⟨?hwt21,?hyt21⟩) (by assumption) ?restt21
   case hit21=>(first | (simp only [lz0,lz1,lz2];rfl) | rfl)
   case hQt21=>exact fun _ _ _ h=>h
   case hwt21=>rfl
   case hyt21=>((intro w hSw;go_simp);first | done | with_reducible rfl)
   try simp only [Act.put,lz3,lz4,lz5]
   refine wpAnyH_take (i:=5) (oi:=?oit35) (v:=?vt35) ?hit35 (by kernel_rfl) (by kernel_rfl) (by kernel_rfl) ?hQt35 (Or.inl ⟨?hwt35,?hyt35⟩) (by assumption) ?restt35
   case hit35=>(first | (simp only [lz0,lz1,lz2];rfl) | rfl)
   case hQt35=>exact fun _ _ _ h=>h
   case hwt35=>rfl
   case hyt35=>((intro w hSw;go_simp);first | done | with_reducible rfl)
   try simp only [Act.put,lz3,lz4,lz5]
   refine wpAnyH_take (i:=6) (oi:=?oit46) (v:=?vt46) ?hit46 (by kernel_rfl) (by kernel_rfl) (by kernel_rfl) ?hQt46 (Or.inl ⟨?hwt46,?hyt46⟩) (by assumption) ?restt46
   case hit46=>(first | (simp only [lz0,lz1,lz2];rfl) | rfl)
   case hQt46=>exact fun _ _ _ h=>h
   case hwt46=>rfl
   case hyt46=>((intro w hSw;go_simp);first | done | with_reducible rfl)
   try simp only [Act.put,lz3,lz4,lz5]
   refine wpAnyH_take (i:=2) (oi:=?oit52) (v:=?vt52) ?hit52 (by kernel_rfl) (by kernel_rfl) (by kernel_rfl) ?hQt52 (Or.inl ⟨?hwt52,?hyt52⟩) (by assumption) ?restt52
   case hit52=>(first | (simp only [lz0,lz1,lz2];rfl) | rfl)
   case hQt52=>exact fun _ _ _ h=>h
   case hwt52=>rfl
   case hyt52=>((intro w hSw;go_simp);first | done | with_reducible rfl)
   try simp only [Act.put,lz3,lz4,lz5]
   refine wpAnyH_take (i:=7) (oi:=?oit67) (v:=?vt67) ?hit67 (by kernel_rfl) (by kernel_rfl) (by kernel_rfl) ?hQt67 (Or.inl ⟨?hwt67,?hyt67⟩) (by assumption) ?restt67
   case hit67=>(first | (simp only [lz0,lz1,lz2];rfl) | rfl)
   case hQt67=>exact fun _ _ _ h=>h
   case hwt67=>rfl
   case hyt67=>((intro w hSw;go_simp);first | done | with_reducible rfl)
   try simp only [Act.put,lz3,lz4,lz5]
   refine wpAnyH_take (i:=3) (oi:=?oit73) (v:=?vt73) ?hit73 (by kernel_rfl) (by kernel_rfl) (by kernel_rfl) ?hQt73 (Or.inl ⟨?hwt73,?hyt73⟩) (by assumption) ?restt73
   case hit73=>(first | (simp only [lz0,lz1,lz2];rfl) | rfl)
   case hQt73=>exact fun _ _ _ h=>h
   case hwt73=>rfl
   case hyt73=>((intro w hSw;go_simp);first | done | with_reducible rfl)
   try simp only [Act.put,lz3,lz4,lz5]
   refine wpAnyH_take (i:=8) (oi:=?oit88) (v:=?vt88) ?hit88 (by kernel_rfl) (by kernel_rfl) (by kernel_rfl) ?hQt88 (Or.inl ⟨?hwt88,?hyt88⟩) (by assumption) ?restt88
   case hit88=>(first | (simp only [lz0,lz1,lz2];rfl) | rfl)
   case hQt88=>exact fun _ _ _ h=>h
   case hwt88=>rfl
   case hyt88=>((intro w hSw;go_simp);first | done | with_reducible rfl)
   try simp only [Act.put,lz3,lz4,lz5]
   refine wpAnyH_take (i:=9) (oi:=?oit99) (v:=?vt99) ?hit99 (by kernel_rfl) (by kernel_rfl) (by kernel_rfl) ?hQt99 (Or.inl ⟨?hwt99,?hyt99⟩) (by assumption) ?restt99
   case hit99=>(first | (simp only [lz0,lz1,lz2];rfl) | rfl)
   case hQt99=>exact fun _ _ _ h=>h
   case hwt99=>rfl
   case hyt99=>((intro w hSw;go_simp);first | done | with_reducible rfl)
   try simp only [Act.put,lz3,lz4,lz5]
   refine wpAnyH_take (i:=10) (oi:=?oit1010) (v:=?vt1010) ?hit1010 (by kernel_rfl) (by kernel_rfl) (by kernel_rfl) ?hQt1010 (Or.inl ⟨?hwt1010,?hyt1010⟩) (by assumption) ?restt1010
   case hit1010=>(first | (simp only [lz0,lz1,lz2];rfl) | rfl)
   case hQt1010=>exact fun _ _ _ h=>h
   case hwt1010=>rfl
   case hyt1010=>((intro w hSw;go_simp);first | done | with_reducible rfl)
   try simp only [Act.put,lz3,lz4,lz5]
   refine wpAnyH_ready (rs:=[4,11]) (by kernel_rfl) (by simp) ?_
   refine AllReadyH.cons (o:=?ot11) ?ht11 ?st11 (AllReadyH.cons (o:=?ot12) ?ht12 ?st12 AllReadyH.nil)
   case ht11=>(simp only [lz0,lz1,lz2];rfl)
   case ht12=>(simp only [lz0,lz1,lz2];rfl)
   case st11=>
    intro K hK
    have yq1:u0.cell? ⟨r,1,none⟩=some va:=by have:=HR0.out.blk.cell 1;simpa using this
    go_simp
    clear yq1
    refine hK.out _ _ (HCB.out _ HR0.out.below) (fun ht13=>?_)
    clear hK K
    try simp only [Act.put,lz3,lz4,lz5]
    refine wpAnyH_ready (rs:=[11]) (by kernel_rfl) (by simp) ?_
    refine AllReadyH.cons (o:=?ot14) ?ht14 ?st14 AllReadyH.nil
    case ht14=>(simp only [lz0,lz1,lz2];rfl)
    case st14=>
     intro K hK
     go_simp
     obtain ⟨uq2,huq3⟩:∃ z,z=u0.alloc (.cells #[.int .i64 (x.toNat:Nat)] 3):=⟨_,rfl⟩
     have Nq6:Hid (Blk uq2 u0.heap.size 3 #[.int .i64 (x.toNat:Nat)]):=Lib.hid (by rw [huq3];exact Blk.new _ _ _)
     rw [← huq3]
     have hbq4:Below u0.heap.size u0 uq2:=by rw [huq3];exact (Below.refl _ u0).alloc (Nat.le_refl _) _
     have Rq5:=Lib.hid (HR0.out.then hbq4)
     clear huq3 hbq4
     refine hK.out _ _ (HCB.out _ Rq5.out.below) (fun ht15=>?_)
     clear hK K
     try simp only [Act.put,lz3,lz4,lz5]
     refine wpAnyH_ready (rs:=[12]) (by kernel_rfl) (by simp) ?_
     refine AllReadyH.cons (o:=?ot16) ?ht16 ?st16 AllReadyH.nil
     case ht16=>(simp only [lz0,lz1,lz2];rfl)
     case st16=>
      intro K hK
      refine step_append_srcN _ rfl (.tmp 25) (.tmp 32) 52 rfl w.heap.size 3 i0 (.int .i64 0) 1 8 Tryz.underlying52 hi hz0 hz1 hz2 rfl (by omega) va _ _ rfl Rq5.out.atR (some ⟨u0.heap.size,0,none⟩) 1 1 [.int .i64 (x.toNat:Nat)] rfl ⟨rfl,fun ad e j u hu=>by cases e;rw [addr_add,Nq6.out.cell];simpa using hu,fun e=>by cases e⟩ (by simp [Value.oneCell']) (by rw [HTL.out];unfold maxLen;omega) (by rw [HTL.out];omega) Rq5.out.below.size ?_
      intro v' uq8 hwq9 hgq10 hlq11
      obtain ⟨Aq12,cq13,rfl⟩:=own_slice hwq9
      have Bq14:=Lib.hid (Rq5.out.blk.grown hgq10 (fun e=>own_blk_ne Rq5.out.atR Rq5.out.blk (by decide) e.symm))
      have Bq14b:Hid (Below w.heap.size w uq8):=Lib.hid (Rq5.out.below.grown hgq10 Rq5.out.below.size (fun k e=>(Rq5.out.atR.lt k e).1))
      have Hhwq9:=Lib.hid hwq9
      have Hhgq10:=Lib.hid hgq10
      have Hhlq11:=Lib.hid hlq11
      clear hwq9 hgq10 hlq11
      refine hK.out _ _ (HCB.out _ Bq14b.out) (fun ht17=>?_)
      clear hK K
      try simp only [Act.put,lz3,lz4,lz5]
      refine wpAnyH_take (i:=13) (oi:=?oit1813) (v:=?vt1813) ?hit1813 (by kernel_rfl) (by kernel_rfl) (by kernel_rfl) ?hQt1813 (Or.inl ⟨?hwt1813,?hyt1813⟩) (by assumption) ?restt1813
      case hit1813=>(first | (simp only [lz0,lz1,lz2];rfl) | rfl)
      case hQt1813=>exact fun _ _ _ h=>h
      case hwt1813=>rfl
      case hyt1813=>((intro w hSw;go_simp);first | done | with_reducible rfl)
      try simp only [Act.put,lz3,lz4,lz5]
      refine wpAnyH_take (i:=14) (oi:=?oit1914) (v:=?vt1914) ?hit1914 (by kernel_rfl) (by kernel_rfl) (by kernel_rfl) ?hQt1914 (Or.inl ⟨?hwt1914,?hyt1914⟩) (by assumption) ?restt1914
      case hit1914=>(first | (simp only [lz0,lz1,lz2];rfl) | rfl)
      case hQt1914=>exact fun _ _ _ h=>h
      case hwt1914=>rfl
      case hyt1914=>((intro w hSw;go_simp);first | done | with_reducible rfl)
      try simp only [Act.put,lz3,lz4,lz5]
      refine wpAnyH_ready (rs:=[15]) (by kernel_rfl) (by simp) ?_
      refine AllReadyH.cons (o:=?ot20) ?ht20 ?st20 AllReadyH.nil
      case ht20=>(simp only [lz0,lz1,lz2];rfl)
      case st20=>
       intro K hK
       have yq15:uq8.cell? ⟨r,1,none⟩=some va:=by have:=Bq14.out.cell 1;simpa using this
       have zq16:=Bq14.out.frozen 1
       go_simp
       clear yq15 zq16
       have Fq17:=Lib.hid (Rq5.out.pushAt (v':=(.slice Aq12 (L.length+1) cq13)) (w2:=uq8) (x:=(x.toNat:Nat)) Hhwq9.out Hhgq10.out Hhlq11.out ⟨by omega,by omega⟩ (by rw [HTL.out];omega))
       refine hK.out _ _ (HCB.out _ Fq17.out.below) (fun ht21=>?_)
       clear hK K
       try simp only [Act.put,lz3,lz4,lz5]
       refine wpAnyH_done (by kernel_rfl) ?_ _
       obtain ⟨W5,hW5⟩:∃ z,z=(uq8.setCell ⟨r,1,none⟩ (.slice Aq12 (L.length+1) cq13)):=⟨_,rfl⟩
       have H5:=Fq17.out
       rw [← hW5] at H5 ⊢
       have HR5:=Lib.hid H5
       have HR5a:=Lib.hid (H5.then ((Below.refl _ W5).alloc (Nat.le_refl _) (.cells #[.int .i64 ((j:Int) - 1)] 3)))
       have y2:W5.cell? ⟨r,2,none⟩=some vb:=H5.cl.2.2.1
       clear hW5 H5 hHeld
       go_wp2_with (at_builtin;clear y2;refine wpList_append_own_at _ rfl _ _ 52 rfl w.heap.size 3 i0 (.int .i64 0) 1 8 Tryz.underlying52 hi hz0 hz1 hz2 rfl (by decide) vb _ _ rfl HR5a.out.befR ⟨W5.heap.size,0,none⟩ 1 1 [.int .i64 ((j:Int) - 1)] rfl rfl one_cell_at (by simp [Value.oneCell']) (by rw [befI_len];unfold maxLen;omega) (by rw [befI_len];omega) HR5a.out.below.size ?_;intro v6 w6 ho6 hg6 hn6 hl6;clear hn6;obtain ⟨A6,c6,rfl⟩:=own_slice ho6;have B6:=HR5a.out.blk.grown hg6 (fun e=>own_blk_ne HR5a.out.befR HR5a.out.blk (by decide) e.symm);have e6:w6.cell? ⟨r,2,none⟩=some vb:=(by have:=B6.cell 2;simpa using this);have z6:=B6.frozen 2;have r6:=HR5a.out.pushBef (x:=(j:Int) - 1) ho6 hg6 hl6 ⟨by omega,by omega⟩ (by rw [befI_len];omega);have y3:=r6.cl.2.2.2.1;rw [befI_len] at y3;rw [befI_len];rw [befI_len,← befI_succ] at r6;have R6:=Lib.hid r6;clear B6 ho6 hg6 hl6 r6;have R6a:=Lib.hid (R6.out.then ((Below.refl _ _).alloc (Nat.le_refl _) (.cells #[.int .i64 ((j:Int)+1)] 3)));go_wp2_with (at_builtin;clear y3 e6 z6;refine wpList_append_own_at _ rfl _ _ 52 rfl w.heap.size 3 i0 (.int .i64 0) 1 8 Tryz.underlying52 hi hz0 hz1 hz2 rfl (by decide) vc _ _ rfl R6a.out.behR ⟨w6.heap.size,0,none⟩ 1 1 [.int .i64 ((j:Int)+1)] rfl rfl (one_cell_at' (size_setCell' _ _ _)) (by simp [Value.oneCell']) (by rw [behI_len];unfold maxLen;omega) (by rw [behI_len];omega) R6a.out.below.size ?_;intro v7 w7 ho7 hg7 hn7 hl7;clear hn7;obtain ⟨A7,c7,rfl⟩:=own_slice ho7;have B7:=R6a.out.blk.grown hg7 (fun e=>own_blk_ne R6a.out.behR R6a.out.blk (by decide) e.symm);have e7:w7.cell? ⟨r,3,none⟩=some vc:=(by have:=B7.cell 3;simpa using this);have z7:=B7.frozen 3;have r7:=R6a.out.pushBeh (x:=(j:Int)+1) ho7 hg7 hl7 ⟨by omega,by omega⟩ (by rw [behI_len];omega);rw [behI_len];rw [behI_len,← behI_succ,← HTK.out] at r7;have R7:=Lib.hid r7;clear B7 ho7 hg7 hl7 r7))
       go_roundw
       case rel=>exact ⟨j+1,_,_,_,by omega,by go_num,R7.out⟩
       case measure=>simp [intOf];omega
   case st12=>
    intro K hK
    go_simp
    obtain ⟨uq18,huq19⟩:∃ z,z=u0.alloc (.cells #[.int .i64 (x.toNat:Nat)] 3):=⟨_,rfl⟩
    have Nq22:Hid (Blk uq18 u0.heap.size 3 #[.int .i64 (x.toNat:Nat)]):=Lib.hid (by rw [huq19];exact Blk.new _ _ _)
    rw [← huq19]
    have hbq20:Below u0.heap.size u0 uq18:=by rw [huq19];exact (Below.refl _ u0).alloc (Nat.le_refl _) _
    have Rq21:=Lib.hid (HR0.out.then hbq20)
    clear huq19 hbq20
    refine hK.out _ _ (HCB.out _ Rq21.out.below) (fun ht22=>?_)
    clear hK K
    try simp only [Act.put,lz3,lz4,lz5]
    refine wpAnyH_ready (rs:=[4]) (by kernel_rfl) (by simp) ?_
    refine AllReadyH.cons (o:=?ot23) ?ht23 ?st23 AllReadyH.nil
    case ht23=>(simp only [lz0,lz1,lz2];rfl)
    case st23=>
     intro K hK
     have yq24:uq18.cell? ⟨r,1,none⟩=some va:=by have:=Rq21.out.blk.cell 1;simpa using this
     go_simp
     clear yq24
     refine hK.out _ _ (HCB.out _ Rq21.out.below) (fun ht24=>?_)
     clear hK K
     try simp only [Act.put,lz3,lz4,lz5]
     refine wpAnyH_ready (rs:=[12]) (by kernel_rfl) (by simp) ?_
     refine AllReadyH.cons (o:=?ot25) ?ht25 ?st25 AllReadyH.nil
     case ht25=>(simp only [lz0,lz1,lz2];rfl)
     case st25=>
      intro K hK
      refine step_append_srcN _ rfl (.tmp 25) (.tmp 32) 52 rfl w.heap.size 3 i0 (.int .i64 0) 1 8 Tryz.underlying52 hi hz0 hz1 hz2 rfl (by omega) va _ _ rfl Rq21.out.atR (some ⟨u0.heap.size,0,none⟩) 1 1 [.int .i64 (x.toNat:Nat)] rfl ⟨rfl,fun ad e j u hu=>by cases e;rw [addr_add,Nq22.out.cell];simpa using hu,fun e=>by cases e⟩ (by simp [Value.oneCell']) (by rw [HTL.out];unfold maxLen;omega) (by rw [HTL.out];omega) Rq21.out.below.size ?_
      intro v' uq25 hwq26 hgq27 hlq28
      obtain ⟨Aq29,cq30,rfl⟩:=own_slice hwq26
      have Bq31:=Lib.hid (Rq21.out.blk.grown hgq27 (fun e=>own_blk_ne Rq21.out.atR Rq21.out.blk (by decide) e.symm))
      have Bq31b:Hid (Below w.heap.size w uq25):=Lib.hid (Rq21.out.below.grown hgq27 Rq21.out.below.size (fun k e=>(Rq21.out.atR.lt k e).1))
      have Hhwq26:=Lib.hid hwq26
      have Hhgq27:=Lib.hid hgq27
      have Hhlq28:=Lib.hid hlq28
      clear hwq26 hgq27 hlq28
      refine hK.out _ _ (HCB.out _ Bq31b.out) (fun ht26=>?_)
      clear hK K
      try simp only [Act.put,lz3,lz4,lz5]
      refine wpAnyH_take (i:=13) (oi:=?oit2713) (v:=?vt2713) ?hit2713 (by kernel_rfl) (by kernel_rfl) (by kernel_rfl) ?hQt2713 (Or.inl ⟨?hwt2713,?hyt2713⟩) (by assumption) ?restt2713
      case hit2713=>(first | (simp only [lz0,lz1,lz2];rfl) | rfl)
      case hQt2713=>exact fun _ _ _ h=>h
      case hwt2713=>rfl
      case hyt2713=>((intro w hSw;go_simp);first | done | with_reducible rfl)
      try simp only [Act.put,lz3,lz4,lz5]
      refine wpAnyH_take (i:=14) (oi:=?oit2814) (v:=?vt2814) ?hit2814 (by kernel_rfl) (by kernel_rfl) (by kernel_rfl) ?hQt2814 (Or.inl ⟨?hwt2814,?hyt2814⟩) (by assumption) ?restt2814
      case hit2814=>(first | (simp only [lz0,lz1,lz2];rfl) | rfl)
      case hQt2814=>exact fun _ _ _ h=>h
      case hwt2814=>rfl
      case hyt2814=>((intro w hSw;go_simp);first | done | with_reducible rfl)
      try simp only [Act.put,lz3,lz4,lz5]
      refine wpAnyH_ready (rs:=[15]) (by kernel_rfl) (by simp) ?_
      refine AllReadyH.cons (o:=?ot29) ?ht29 ?st29 AllReadyH.nil
      case ht29=>(simp only [lz0,lz1,lz2];rfl)
      case st29=>
       intro K hK
       have yq32:uq25.cell? ⟨r,1,none⟩=some va:=by have:=Bq31.out.cell 1;simpa using this
       have zq33:=Bq31.out.frozen 1
       go_simp
       clear yq32 zq33
       have Fq34:=Lib.hid (Rq21.out.pushAt (v':=(.slice Aq29 (L.length+1) cq30)) (w2:=uq25) (x:=(x.toNat:Nat)) Hhwq26.out Hhgq27.out Hhlq28.out ⟨by omega,by omega⟩ (by rw [HTL.out];omega))
       refine hK.out _ _ (HCB.out _ Fq34.out.below) (fun ht30=>?_)
       clear hK K
       try simp only [Act.put,lz3,lz4,lz5]
       refine wpAnyH_done (by kernel_rfl) ?_ _
       obtain ⟨W5,hW5⟩:∃ z,z=(uq25.setCell ⟨r,1,none⟩ (.slice Aq29 (L.length+1) cq30)):=⟨_,rfl⟩
       have H5:=Fq34.out
       rw [← hW5] at H5 ⊢
       have HR5:=Lib.hid H5
       have HR5a:=Lib.hid (H5.then ((Below.refl _ W5).alloc (Nat.le_refl _) (.cells #[.int .i64 ((j:Int) - 1)] 3)))
       have y2:W5.cell? ⟨r,2,none⟩=some vb:=H5.cl.2.2.1
       clear hW5 H5 hHeld
       go_wp2_with (at_builtin;clear y2;refine wpList_append_own_at _ rfl _ _ 52 rfl w.heap.size 3 i0 (.int .i64 0) 1 8 Tryz.underlying52 hi hz0 hz1 hz2 rfl (by decide) vb _ _ rfl HR5a.out.befR ⟨W5.heap.size,0,none⟩ 1 1 [.int .i64 ((j:Int) - 1)] rfl rfl one_cell_at (by simp [Value.oneCell']) (by rw [befI_len];unfold maxLen;omega) (by rw [befI_len];omega) HR5a.out.below.size ?_;intro v6 w6 ho6 hg6 hn6 hl6;clear hn6;obtain ⟨A6,c6,rfl⟩:=own_slice ho6;have B6:=HR5a.out.blk.grown hg6 (fun e=>own_blk_ne HR5a.out.befR HR5a.out.blk (by decide) e.symm);have e6:w6.cell? ⟨r,2,none⟩=some vb:=(by have:=B6.cell 2;simpa using this);have z6:=B6.frozen 2;have r6:=HR5a.out.pushBef (x:=(j:Int) - 1) ho6 hg6 hl6 ⟨by omega,by omega⟩ (by rw [befI_len];omega);have y3:=r6.cl.2.2.2.1;rw [befI_len] at y3;rw [befI_len];rw [befI_len,← befI_succ] at r6;have R6:=Lib.hid r6;clear B6 ho6 hg6 hl6 r6;have R6a:=Lib.hid (R6.out.then ((Below.refl _ _).alloc (Nat.le_refl _) (.cells #[.int .i64 ((j:Int)+1)] 3)));go_wp2_with (at_builtin;clear y3 e6 z6;refine wpList_append_own_at _ rfl _ _ 52 rfl w.heap.size 3 i0 (.int .i64 0) 1 8 Tryz.underlying52 hi hz0 hz1 hz2 rfl (by decide) vc _ _ rfl R6a.out.behR ⟨w6.heap.size,0,none⟩ 1 1 [.int .i64 ((j:Int)+1)] rfl rfl (one_cell_at' (size_setCell' _ _ _)) (by simp [Value.oneCell']) (by rw [behI_len];unfold maxLen;omega) (by rw [behI_len];omega) R6a.out.below.size ?_;intro v7 w7 ho7 hg7 hn7 hl7;clear hn7;obtain ⟨A7,c7,rfl⟩:=own_slice ho7;have B7:=R6a.out.blk.grown hg7 (fun e=>own_blk_ne R6a.out.behR R6a.out.blk (by decide) e.symm);have e7:w7.cell? ⟨r,3,none⟩=some vc:=(by have:=B7.cell 3;simpa using this);have z7:=B7.frozen 3;have r7:=R6a.out.pushBeh (x:=(j:Int)+1) ho7 hg7 hl7 ⟨by omega,by omega⟩ (by rw [behI_len];omega);rw [behI_len];rw [behI_len,← behI_succ,← HTK.out] at r7;have R7:=Lib.hid r7;clear B7 ho7 hg7 hl7 r7))
       go_roundw
       case rel=>exact ⟨j+1,_,_,_,by omega,by go_num,R7.out⟩
       case measure=>simp [intOf];omega
  ·obtain rfl:n=j:=by omega
   have htl:(bytesI s).take n=bytesI s:=List.take_of_length_le (by rw [bytesI_len,HSL.out];omega)
   rw [htl] at hR
   have y2:wr.cell? ⟨r,2,none⟩=some vb:=hR.cl.2.2.1
   have HRa:=Lib.hid (hR.then ((Below.refl _ wr).alloc (Nat.le_refl _) (.cells #[.int .i64 ((n:Int) - 1)] 3)))
   have hn0:(0:Int)≤(n:Int):=by omega
   have hn1:(n:Int)≤1000000:=by omega
   clear hR htl
   go_wp2_with (at_builtin;clear y2;refine wpList_append_own_at _ rfl _ _ 52 rfl w.heap.size 3 i0 (.int .i64 0) 1 8 Tryz.underlying52 hi hz0 hz1 hz2 rfl (by decide) vb _ _ rfl HRa.out.befR ⟨wr.heap.size,0,none⟩ 1 1 [.int .i64 ((n:Int) - 1)] rfl rfl one_cell_at (by simp [Value.oneCell']) (by rw [befI_len];unfold maxLen;omega) (by rw [befI_len];omega) HRa.out.below.size ?_;intro v6 w6 ho6 hg6 hn6 hl6;clear hn6;obtain ⟨A6,c6,rfl⟩:=own_slice ho6;have B6:=HRa.out.blk.grown hg6 (fun e=>own_blk_ne HRa.out.befR HRa.out.blk (by decide) e.symm);have e6:w6.cell? ⟨r,2,none⟩=some vb:=(by have:=B6.cell 2;simpa using this);have z6:=B6.frozen 2;have r6:=HRa.out.pushBef (x:=(n:Int) - 1) ho6 hg6 hl6 ⟨by omega,by omega⟩ (by rw [befI_len];omega);have y3:=r6.cl.2.2.2.1;rw [befI_len] at y3;rw [befI_len];rw [befI_len,← befI_succ] at r6;have R6:=Lib.hid r6;clear B6 ho6 hg6 hl6 r6)
   obtain ⟨W9,hW9⟩:∃ z,z=w6.setCell ⟨r,2,none⟩ (.slice A6 (n+1) c6):=⟨_,rfl⟩
   have R9:=R6.out
   rw [← hW9] at R9 ⊢
   have HR9:=Lib.hid R9
   clear R6 HRa HR1 R9 hW9 y3 e6 z6
   go_loopw [73] (fun i wr=>∃ (j:Nat) (st:List (Nat×Nat)) (vs:Value),j≤n∧i=.int .i64 (j:Nat)∧IsRow w wr r b (bytesI s) (befI (n+1)) (behI n) st va (.slice A6 (n+1) c6) vc vs∧StUp V.mer (bytesI s) (List.range (n+1)) j st) (fun i _=>n - (intOf i).toNat)
   case atStart=>exact ⟨0,[],_,Nat.zero_le _,rfl,HR9.out,StUp.nil _ _ _⟩
   case round=>
    obtain ⟨j,st,vs,hj,rfl,hR,hU⟩:=hrel
    clear HR9
    have hul:=hU.len
    rcases Nat.lt_or_ge j n with hlt | hge
    ·have hjq:(List.range (n+1))[j]?=some j:=List.getElem?_range (by omega)
     have hbl:(bytesI s).length=n:=by rw [bytesI_len,HSL.out]
     have hso:=HO.out.stepAt (M:=V.mer) hjq (by rw [hbl];exact hlt)
     have hsm:=fun x hx=>HO.out.step_small (M:=V.mer) (j:=j) (x:=x) hx
     have hinc:=HO.out.inc
     obtain ⟨o,ho⟩:∃ o,o=stepOf V.mer (bytesI s) (List.range (n+1)) j:=⟨_,rfl⟩
     rw [← ho] at hso
     have hstep:=stepAt_any w wr r b V (HC.out.below hR.below) ⟨_,_,_,_,hR⟩ hso.1
     have HSTEP:=Lib.hid hstep
     have HR:=Lib.hid hR
     have HU:=Lib.hid hU
     have hjn:(j:Int) < (n:Int):=by omega
     have hjz:(0:Int)≤(j:Int):=by omega
     have HINC:=Lib.hid hinc
     have HSO2:=Lib.hid hso.2
     have HSM:=Lib.hid hsm
     have HO2:=Lib.hid ho
     clear hR hU hstep hso hinc hsm ho hjq hbl
     cases o with
     | none=>
      go_wp2_with fail
      refine HSTEP.out.mono ?_
      rintro e w1 ⟨x,y,rfl,hk,hb⟩
      have HR2:=Lib.hid ((HR.out.then hb).then ((Below.refl _ w1).alloc (Nat.le_refl _) (.cells #[.int .i64 x,.int .i64 y] 201)))
      clear hk hb
      go_wp2_with fail
      go_roundw
      case rel=>exact ⟨j+1,st,vs,by omega,by go_num,HR2.out,HU.out.skip HO2.out.symm⟩
      case measure=>simp [intOf];omega
     | some sp=>
      obtain ⟨k,p⟩:=sp
      obtain rfl:j=p:=Int.ofNat.inj (HSO2.out k p rfl)
      have hkp:=HSM.out (k,j) HO2.out.symm
      have hfl:(st++[(k,j)]).flatMap stV=st.flatMap stV++[.int .i64 k,.int .i64 j]:=by rw [List.flatMap_append];rfl
      have hll:(st++[(k,j)]).length=st.length+1:=by simp
      have HAP:Hid ((st++[(k,j)]).length=st.length+1∧(st++[(k,j)]).flatMap stV=st.flatMap stV++[.int .i64 k,.int .i64 j]):=Lib.hid ⟨hll,hfl⟩
      have HSF:Hid (∀ s∈st++[(k,j)],s.1≤1048576∧s.2≤1048576):=Lib.hid (fun s hs=>by
       rcases List.mem_append.1 hs with h | h
       ·exact HR.out.stF s h
       ·rw [List.mem_singleton.1 h];exact ⟨by have:=hkp.1;omega,by have:=hkp.2;omega⟩)
      clear hkp hfl hll
      go_wp2_with fail
      refine HSTEP.out.mono ?_
      rintro e w1 ⟨x,y,rfl,hk,hb⟩
      obtain ⟨rfl,rfl⟩:=hk k rfl
      obtain ⟨W2,hW2⟩:∃ z,z=w1.alloc (.cells #[.int .i64 k,.int .i64 (j:Nat)] 201):=⟨_,rfl⟩
      have HST:Hid (Blk W2 w1.heap.size 201 #[.int .i64 k,.int .i64 (j:Nat)]):=Lib.hid (by rw [hW2];exact Blk.new _ _ _)
      have b1:Below w1.heap.size w1 W2:=by rw [hW2];exact (Below.refl _ w1).alloc (Nat.le_refl _) _
      have HNS:Hid (vs.ownBlock≠some w1.heap.size):=Lib.hid (fun e=>Nat.lt_irrefl _ ((HR.out.then hb).stR.lt _ e).2)
      have HNR:Hid (w1.heap.size≠r):=Lib.hid (fun e=>by have:=(HR.out.then hb).blk.lt;omega)
      have HB:=Lib.hid ((HR.out.then hb).then b1)
      have HW2:=Lib.hid hW2
      clear hk hb b1 hW2
      go_wp2_with fail
      rw [← HW2.out]
      refine wp_region_held_drew (S:=fun w'=>w'.cell? ⟨w1.heap.size,0,none⟩=some (.int .i64 k)∧w'.cell? ⟨w1.heap.size,1,none⟩=some (.int .i64 (j:Nat))) (by kernel_rfl) (two_cells HST.out) (fun hHeld=>?_)
      obtain ⟨u0,hu0⟩:∃ z,z=W2.drew:=⟨_,rfl⟩
      rw [← hu0] at hHeld ⊢
      have hb0:Below W2.heap.size W2 u0:=by rw [hu0];exact (Below.refl _ W2).drew
      have HR0:=Lib.hid (HB.out.then hb0)
      have HST0:=Lib.hid (HST.out.below hb0 HST.out.lt)
      clear hu0 hb0
      refine wpAnyH_take (i:=0) (oi:=?ois10) (v:=?vs10) ?his10 (by kernel_rfl) (by kernel_rfl) (by kernel_rfl) ?hQs10 (Or.inl ⟨?hws10,?hys10⟩) (by assumption) ?rests10
      case his10=>(first | (simp only [lz0,lz1,lz2];rfl) | rfl)
      case hQs10=>exact fun _ _ _ h=>h
      case hws10=>rfl
      case hys10=>((intro w hSw;go_simp);first | done | with_reducible rfl)
      try simp only [Act.put,lz3,lz4,lz5]
      refine wpAnyH_take (i:=1) (oi:=?ois21) (v:=?vs21) ?his21 (by kernel_rfl) (by kernel_rfl) (by kernel_rfl) ?hQs21 (Or.inl ⟨?hws21,?hys21⟩) (by assumption) ?rests21
      case his21=>(first | (simp only [lz0,lz1,lz2];rfl) | rfl)
      case hQs21=>exact fun _ _ _ h=>h
      case hws21=>rfl
      case hys21=>((intro w hSw;go_simp);first | done | with_reducible rfl)
      try simp only [Act.put,lz3,lz4,lz5]
      refine wpAnyH_take (i:=5) (oi:=?ois35) (v:=?vs35) ?his35 (by kernel_rfl) (by kernel_rfl) (by kernel_rfl) ?hQs35 (Or.inl ⟨?hws35,?hys35⟩) (by assumption) ?rests35
      case his35=>(first | (simp only [lz0,lz1,lz2];rfl) | rfl)
      case hQs35=>exact fun _ _ _ h=>h
      case hws35=>rfl
      case hys35=>((intro w hSw;go_simp);first | done | with_reducible rfl)
      try simp only [Act.put,lz3,lz4,lz5]
      refine wpAnyH_take (i:=2) (oi:=?ois42) (v:=?vs42) ?his42 (by kernel_rfl) (by kernel_rfl) (by kernel_rfl) ?hQs42 (Or.inl ⟨?hws42,?hys42⟩) (by assumption) ?rests42
      case his42=>(first | (simp only [lz0,lz1,lz2];rfl) | rfl)
      case hQs42=>exact fun _ _ _ h=>h
      case hws42=>rfl
      case hys42=>((intro w hSw;go_simp);first | done | with_reducible rfl)
      try simp only [Act.put,lz3,lz4,lz5]
      refine wpAnyH_take (i:=3) (oi:=?ois53) (v:=?vs53) ?his53 (by kernel_rfl) (by kernel_rfl) (by kernel_rfl) ?hQs53 (Or.inl ⟨?hws53,?hys53⟩) (by assumption) ?rests53
      case his53=>(first | (simp only [lz0,lz1,lz2];rfl) | rfl)
      case hQs53=>exact fun _ _ _ h=>h
      case hws53=>rfl
      case hys53=>((intro w hSw;go_simp);first | done | with_reducible rfl)
      try simp only [Act.put,lz3,lz4,lz5]
      refine wpAnyH_ready (rs:=[4,6]) (by kernel_rfl) (by simp) ?_
      refine AllReadyH.cons (o:=?os6) ?hs6 ?ss6 (AllReadyH.cons (o:=?os7) ?hs7 ?ss7 AllReadyH.nil)
      case hs6=>(simp only [lz0,lz1,lz2];rfl)
      case hs7=>(simp only [lz0,lz1,lz2];rfl)
      case ss6=>
       intro K hK
       have yq35:u0.cell? ⟨r,4,none⟩=some vs:=by have:=HR0.out.blk.cell 4;simpa using this
       go_simp
       clear yq35
       refine hK.out _ _ (two_cells HST0.out) (fun hs8=>?_)
       clear hK K
       try simp only [Act.put,lz3,lz4,lz5]
       refine wpAnyH_ready (rs:=[6]) (by kernel_rfl) (by simp) ?_
       refine AllReadyH.cons (o:=?os9) ?hs9 ?ss9 AllReadyH.nil
       case hs9=>(simp only [lz0,lz1,lz2];rfl)
       case ss9=>
        intro K hK
        go_simp
        obtain ⟨uq36,huq37⟩:∃ z,z=u0.alloc (.cells #[.int .i64 k,.int .i64 (j:Nat)] 201):=⟨_,rfl⟩
        have Nq40:Hid (Blk uq36 u0.heap.size 201 #[.int .i64 k,.int .i64 (j:Nat)]):=Lib.hid (by rw [huq37];exact Blk.new _ _ _)
        rw [← huq37]
        have hbq38:Below u0.heap.size u0 uq36:=by rw [huq37];exact (Below.refl _ u0).alloc (Nat.le_refl _) _
        have Rq39:=Lib.hid (HR0.out.then hbq38)
        have Tq41:=Lib.hid (HST0.out.below hbq38 HST0.out.lt)
        have Tq41n:Hid (vs.ownBlock≠some u0.heap.size):=Lib.hid (fun e=>Nat.lt_irrefl _ (HR0.out.stR.lt _ e).2)
        clear huq37 hbq38
        refine hK.out _ _ (two_cells Tq41.out) (fun hs10=>?_)
        clear hK K
        try simp only [Act.put,lz3,lz4,lz5]
        refine wpAnyH_ready (rs:=[7]) (by kernel_rfl) (by simp) ?_
        refine AllReadyH.cons (o:=?os11) ?hs11 ?ss11 AllReadyH.nil
        case hs11=>(simp only [lz0,lz1,lz2];rfl)
        case ss11=>
         intro K hK
         refine step_append_srcN _ rfl (.tmp 87) (.tmp 89) 128 rfl w.heap.size 201 j0 _ 2 16 Tryz.underlying128 hj0 hy0 hy1 hy2 rfl (by omega) vs _ _ rfl Rq39.out.stR (some ⟨u0.heap.size,0,none⟩) 1 1 [.int .i64 k,.int .i64 (j:Nat)] rfl ⟨rfl,fun ad e j u hu=>by cases e;rw [addr_add,Nq40.out.cell];simpa using hu,fun e=>by cases e⟩ (by simp [Value.oneCell']) (by unfold maxLen;omega) (by omega) Rq39.out.below.size ?_
         intro v' uq42 hwq43 hgq44 hlq45
         obtain ⟨Aq46,cq47,rfl⟩:=own_slice hwq43
         have Bq48:=Lib.hid (Rq39.out.blk.grown hgq44 (fun e=>own_blk_ne Rq39.out.stR Rq39.out.blk (by decide) e.symm))
         have Tq49:=Lib.hid (Tq41.out.grown hgq44 (fun e=>HNS.out e.symm))
         have Hhwq43:=Lib.hid hwq43
         have Hhgq44:=Lib.hid hgq44
         clear hwq43 hgq44 hlq45
         refine hK.out _ _ (two_cells Tq49.out) (fun hs12=>?_)
         clear hK K
         try simp only [Act.put,lz3,lz4,lz5]
         refine wpAnyH_take (i:=8) (oi:=?ois138) (v:=?vs138) ?his138 (by kernel_rfl) (by kernel_rfl) (by kernel_rfl) ?hQs138 (Or.inl ⟨?hws138,?hys138⟩) (by assumption) ?rests138
         case his138=>(first | (simp only [lz0,lz1,lz2];rfl) | rfl)
         case hQs138=>exact fun _ _ _ h=>h
         case hws138=>rfl
         case hys138=>((intro w hSw;go_simp);first | done | with_reducible rfl)
         try simp only [Act.put,lz3,lz4,lz5]
         refine wpAnyH_take (i:=9) (oi:=?ois149) (v:=?vs149) ?his149 (by kernel_rfl) (by kernel_rfl) (by kernel_rfl) ?hQs149 (Or.inl ⟨?hws149,?hys149⟩) (by assumption) ?rests149
         case his149=>(first | (simp only [lz0,lz1,lz2];rfl) | rfl)
         case hQs149=>exact fun _ _ _ h=>h
         case hws149=>rfl
         case hys149=>((intro w hSw;go_simp);first | done | with_reducible rfl)
         try simp only [Act.put,lz3,lz4,lz5]
         refine wpAnyH_ready (rs:=[10]) (by kernel_rfl) (by simp) ?_
         refine AllReadyH.cons (o:=?os15) ?hs15 ?ss15 AllReadyH.nil
         case hs15=>(simp only [lz0,lz1,lz2];rfl)
         case ss15=>
          intro K hK
          have yq50:uq42.cell? ⟨r,4,none⟩=some vs:=by have:=Bq48.out.cell 4;simpa using this
          have zq51:=Bq48.out.frozen 4
          go_simp
          clear yq50 zq51
          have Fq52:=Lib.hid (Rq39.out.setSt (st':=st++[(k,j)]) (vs':=(.slice Aq46 (st.length+1) cq47)) (w2:=uq42) (by rw [HAP.out.1,HAP.out.2];exact Hhwq43.out) Hhgq44.out (by rw [HAP.out.1];omega) HSF.out)
          have Tq53:=Lib.hid (Tq49.out.far (p:=⟨r,4,none⟩) HNR.out (.slice Aq46 (st.length+1) cq47))
          refine hK.out _ _ (two_cells Tq53.out) (fun hs16=>?_)
          clear hK K
          try simp only [Act.put,lz3,lz4,lz5]
          refine wpAnyH_done (by kernel_rfl) ?_ _
          go_wp2_with fail
          go_roundw
          case rel=>exact ⟨j+1,_,_,by omega,by go_num,Fq52.out,HU.out.push HINC.out HO2.out.symm⟩
          case measure=>simp [intOf];omega
      case ss7=>
       intro K hK
       go_simp
       obtain ⟨uq54,huq55⟩:∃ z,z=u0.alloc (.cells #[.int .i64 k,.int .i64 (j:Nat)] 201):=⟨_,rfl⟩
       have Nq58:Hid (Blk uq54 u0.heap.size 201 #[.int .i64 k,.int .i64 (j:Nat)]):=Lib.hid (by rw [huq55];exact Blk.new _ _ _)
       rw [← huq55]
       have hbq56:Below u0.heap.size u0 uq54:=by rw [huq55];exact (Below.refl _ u0).alloc (Nat.le_refl _) _
       have Rq57:=Lib.hid (HR0.out.then hbq56)
       have Tq59:=Lib.hid (HST0.out.below hbq56 HST0.out.lt)
       have Tq59n:Hid (vs.ownBlock≠some u0.heap.size):=Lib.hid (fun e=>Nat.lt_irrefl _ (HR0.out.stR.lt _ e).2)
       clear huq55 hbq56
       refine hK.out _ _ (two_cells Tq59.out) (fun hs17=>?_)
       clear hK K
       try simp only [Act.put,lz3,lz4,lz5]
       refine wpAnyH_ready (rs:=[4]) (by kernel_rfl) (by simp) ?_
       refine AllReadyH.cons (o:=?os18) ?hs18 ?ss18 AllReadyH.nil
       case hs18=>(simp only [lz0,lz1,lz2];rfl)
       case ss18=>
        intro K hK
        have yq60:uq54.cell? ⟨r,4,none⟩=some vs:=by have:=Rq57.out.blk.cell 4;simpa using this
        go_simp
        clear yq60
        refine hK.out _ _ (two_cells Tq59.out) (fun hs19=>?_)
        clear hK K
        try simp only [Act.put,lz3,lz4,lz5]
        refine wpAnyH_ready (rs:=[7]) (by kernel_rfl) (by simp) ?_
        refine AllReadyH.cons (o:=?os20) ?hs20 ?ss20 AllReadyH.nil
        case hs20=>(simp only [lz0,lz1,lz2];rfl)
        case ss20=>
         intro K hK
         refine step_append_srcN _ rfl (.tmp 87) (.tmp 89) 128 rfl w.heap.size 201 j0 _ 2 16 Tryz.underlying128 hj0 hy0 hy1 hy2 rfl (by omega) vs _ _ rfl Rq57.out.stR (some ⟨u0.heap.size,0,none⟩) 1 1 [.int .i64 k,.int .i64 (j:Nat)] rfl ⟨rfl,fun ad e j u hu=>by cases e;rw [addr_add,Nq58.out.cell];simpa using hu,fun e=>by cases e⟩ (by simp [Value.oneCell']) (by unfold maxLen;omega) (by omega) Rq57.out.below.size ?_
         intro v' uq61 hwq62 hgq63 hlq64
         obtain ⟨Aq65,cq66,rfl⟩:=own_slice hwq62
         have Bq67:=Lib.hid (Rq57.out.blk.grown hgq63 (fun e=>own_blk_ne Rq57.out.stR Rq57.out.blk (by decide) e.symm))
         have Tq68:=Lib.hid (Tq59.out.grown hgq63 (fun e=>HNS.out e.symm))
         have Hhwq62:=Lib.hid hwq62
         have Hhgq63:=Lib.hid hgq63
         clear hwq62 hgq63 hlq64
         refine hK.out _ _ (two_cells Tq68.out) (fun hs21=>?_)
         clear hK K
         try simp only [Act.put,lz3,lz4,lz5]
         refine wpAnyH_take (i:=8) (oi:=?ois228) (v:=?vs228) ?his228 (by kernel_rfl) (by kernel_rfl) (by kernel_rfl) ?hQs228 (Or.inl ⟨?hws228,?hys228⟩) (by assumption) ?rests228
         case his228=>(first | (simp only [lz0,lz1,lz2];rfl) | rfl)
         case hQs228=>exact fun _ _ _ h=>h
         case hws228=>rfl
         case hys228=>((intro w hSw;go_simp);first | done | with_reducible rfl)
         try simp only [Act.put,lz3,lz4,lz5]
         refine wpAnyH_take (i:=9) (oi:=?ois239) (v:=?vs239) ?his239 (by kernel_rfl) (by kernel_rfl) (by kernel_rfl) ?hQs239 (Or.inl ⟨?hws239,?hys239⟩) (by assumption) ?rests239
         case his239=>(first | (simp only [lz0,lz1,lz2];rfl) | rfl)
         case hQs239=>exact fun _ _ _ h=>h
         case hws239=>rfl
         case hys239=>((intro w hSw;go_simp);first | done | with_reducible rfl)
         try simp only [Act.put,lz3,lz4,lz5]
         refine wpAnyH_ready (rs:=[10]) (by kernel_rfl) (by simp) ?_
         refine AllReadyH.cons (o:=?os24) ?hs24 ?ss24 AllReadyH.nil
         case hs24=>(simp only [lz0,lz1,lz2];rfl)
         case ss24=>
          intro K hK
          have yq69:uq61.cell? ⟨r,4,none⟩=some vs:=by have:=Bq67.out.cell 4;simpa using this
          have zq70:=Bq67.out.frozen 4
          go_simp
          clear yq69 zq70
          have Fq71:=Lib.hid (Rq57.out.setSt (st':=st++[(k,j)]) (vs':=(.slice Aq65 (st.length+1) cq66)) (w2:=uq61) (by rw [HAP.out.1,HAP.out.2];exact Hhwq62.out) Hhgq63.out (by rw [HAP.out.1];omega) HSF.out)
          have Tq72:=Lib.hid (Tq68.out.far (p:=⟨r,4,none⟩) HNR.out (.slice Aq65 (st.length+1) cq66))
          refine hK.out _ _ (two_cells Tq72.out) (fun hs25=>?_)
          clear hK K
          try simp only [Act.put,lz3,lz4,lz5]
          refine wpAnyH_done (by kernel_rfl) ?_ _
          go_wp2_with fail
          go_roundw
          case rel=>exact ⟨j+1,_,_,by omega,by go_num,Fq71.out,HU.out.push HINC.out HO2.out.symm⟩
          case measure=>simp [intOf];omega
    ·obtain rfl:n=j:=by omega
     obtain ⟨A9,c9,rfl⟩:=own_slice hR.stR
     have y4:=hR.cl.2.2.2.2
     have HR:=Lib.hid hR
     have HU:=Lib.hid hU
     have hstl:=hR.small.2.2.2
     clear hR hU
     go_wp2_with fail
     refine (sort_any wr w.heap.size _ st HR.out.stR hstl).mono ?_
     rintro e w2 ⟨rfl,st',hp,hs,hown,hg⟩
     have hok:=HU.out.ok (by rw [bytesI_len,HSL.out];exact Nat.le_refl _) hp hs
     have hpl:st'.length≤n:=by rw [hp.length_eq];exact hul
     have hfin:=HR.out.sorted hown hg (by omega) (fun s hs'=>HR.out.stF s (hp.mem_iff.1 hs'))
     have HOK:=Lib.hid hok
     have HF:=Lib.hid hfin
     clear y4 hp hs hown hg hok hfin
     go_wp2_with fail
     go_ret
     refine ⟨r,st',rfl,?_,?_,?_⟩
     ·rw [HSL.out];exact ⟨_,_,_,_,HF.out⟩
     ·rw [HSL.out];exact HOK.out
     ·rw [HSL.out];exact hpl
def Merged (w0:World) (r b:Nat) (M:List Mg) (n:Nat) (l:List Int) (m:Nat) (e:Ending) (w':World):Prop:=
 ∃ k i qs at_ before behind st,e=.returned (.tuple #[])∧bestOf M l=some (k,i)∧Row w0 w' r b at_ before behind st∧RowOK n (mergeAt l i (toOf M k)) qs at_ before behind∧StOK st (stepSet M (mergeAt l i (toOf M k)) qs)∧st.length≤m+1
theorem mergeFirst_any (w0 w:World) (r b:Nat) (V:Voc) (hC:Coder w0 b V) {n:Nat} {l:List Int} {qs:List Nat} {at_ before behind:List Int} {st:List (Nat×Nat)} (hR:Row w0 w r b at_ before behind st)
  (hO:RowOK n l qs at_ before behind) (hS:StOK st (stepSet V.mer l qs)) (hne:0 < st.length) (hsm:st.length≤1000000) (hn:n≤1000000) (hM:V.mer.length≤1000000):
  Calls Tryz.prog 62 #[at0 r] w (Merged w0 r b V.mer n l st.length):=by
 obtain ⟨va,vb,vc,vs,hR⟩:=hR
 have hlast:st[st.length - 1]?=some (st[st.length - 1]'(by omega)):=List.getElem?_eq_getElem _
 obtain ⟨s,hs⟩:∃ s,s=st[st.length - 1]'(by omega):=⟨_,rfl⟩
 rw [← hs] at hlast
 obtain ⟨k,p⟩:=s
 obtain ⟨i,g,q,hbest,hp,hg,hq,hstep⟩:=best_last hO hS hlast
 have hil:i+1 < l.length:=by
  have:=(List.getElem?_eq_some_iff.1 hq).1
  rw [hO.len] at this
  omega
 obtain ⟨pa,hpa,hst1⟩:=hO.ahead hp (by omega) V.mer
 have hbg:=hO.beh i p g hp hg
 have hbq:=hO.beh (i+1) g q hg hq
 have hap:=hO.tok i _ p (List.getElem?_eq_getElem (by omega)) hp
 obtain ⟨xa,hxa⟩:∃ x,x=l[i]'(by omega):=⟨_,rfl⟩
 rw [← hxa] at hap
 have hqB:before[q]?=some (g:Int):=hO.bef (i+1) g q hg hq
 have hpn:p < n:=hO.lt (by omega) hp
 have hgn:g < n:=hO.lt (by omega) hg
 have hqn:q≤n:=hO.le hq
 have hpg:p < g:=hO.inc i (i+1) p g (by omega) hp hg
 have hgq:g < q:=hO.inc (i+1) (i+2) g q (by omega) hg hq
 obtain ⟨hkl,m,hm⟩:k < V.mer.length∧∃ m,V.mer[k]?=some m:=by
  obtain ⟨a,b,_,_,h⟩:=pairRk_some (bestOf_rk hbest)
  obtain ⟨h1,m,h2,_⟩:=rkOf_lt h
  exact ⟨h1,m,h2⟩
 have hto:toOf V.mer k=m.t:=by unfold toOf;rw [List.getD_eq_getElem?_getD,hm];rfl
 obtain ⟨ads,cs,e1,_,l1,l2⟩:=own_step_at hR.stR hlast
 subst e1
 obtain ⟨ada,ca,e1,_,_⟩:=own_int_at hR.atR hap
 subst e1
 obtain ⟨adb,cb,e1,_,_⟩:=own_int_at hR.befR hpa
 subst e1
 obtain ⟨adc,cc,e1,_,_⟩:=own_int_at hR.behR hbg
 subst e1
 have HR:=Lib.hid hR
 have HO:=Lib.hid hO
 have HS:=Lib.hid hS
 have HC:=Lib.hid hC
 have HNS:Hid (ads.block≠w.heap.size):=Lib.hid (fun e=>by have:=(hR.stR.lt _ rfl).2;omega)
 have HNA:Hid (ada.block≠w.heap.size):=Lib.hid (fun e=>by have:=(hR.atR.lt _ rfl).2;omega)
 have HNB:Hid (adb.block≠w.heap.size):=Lib.hid (fun e=>by have:=(hR.befR.lt _ rfl).2;omega)
 have HNC:Hid (adc.block≠w.heap.size):=Lib.hid (fun e=>by have:=(hR.behR.lt _ rfl).2;omega)
 have HNR:Hid (w.heap.size≠r):=Lib.hid (fun e=>by have:=hR.blk.lt;omega)
 have g4:w.cell? ⟨r,4,none⟩=some (.slice (some ads) st.length cs):=hR.cl.2.2.2.2
 obtain ⟨N,hN⟩:∃ N,N=st.length:=⟨_,rfl⟩
 rw [← hN] at g4 hne hsm l1 l2
 obtain ⟨NA,hNA⟩:∃ N,N=at_.length:=⟨_,rfl⟩
 obtain ⟨NB,hNB⟩:∃ N,N=before.length:=⟨_,rfl⟩
 obtain ⟨NC,hNC⟩:∃ N,N=behind.length:=⟨_,rfl⟩
 have hN1:IntKind.i64.wrap ((N:Int) - 1)=((N - 1:Nat):Int):=by rw [IntKind.wrap_i64];omega
 have hN2:((N - 1:Nat):Int) < (N:Int):=by omega
 have bA:(p:Int) < (NA:Int):=by rw [hNA,hO.atL];omega
 have bB:(p:Int) < (NB:Int):=by rw [hNB,hO.befL];omega
 have bB2:(q:Int) < (NB:Int):=by rw [hNB,hO.befL];omega
 have bC:(p:Int) < (NC:Int):=by rw [hNC,hO.behL];omega
 have bC2:(g:Int) < (NC:Int):=by rw [hNC,hO.behL];omega
 have hp0:(0:Int)≤(p:Int):=by omega
 have hg0:(0:Int)≤(g:Int):=by omega
 have hq0:(0:Int)≤(q:Int):=by omega
 have hk0:(0:Int)≤(k:Int):=by omega
 have hkM:(k:Int) < (V.mer.length:Int):=by omega
 have HN:=Lib.hid hN
 have HNa:=Lib.hid hNA
 have HNb:=Lib.hid hNB
 have HNc:=Lib.hid hNC
 have HBG:=Lib.hid hbg
 have HBQ:=Lib.hid hbq
 have HAP:=Lib.hid hap
 have HPA:=Lib.hid hpa
 have HQB:=Lib.hid hqB
 have HST1:=Lib.hid hst1
 have HBEST:=Lib.hid hbest
 have HSTEP:=Lib.hid hstep
 have HP:=Lib.hid hp
 have HG:=Lib.hid hg
 have HQ:=Lib.hid hq
 have HM:=Lib.hid hm
 have HTO:=Lib.hid hto
 clear hR hO hS hC hs hlast hN hNA hNB hNC hbg hbq hap hpa hqB hst1 hbest hstep hp hg hq hm hto hxa
 unfold at0
 go_enter Tryz.func62,Tryz.ntmps62
 go_wp2_with fail
 refine wp_region_held_drew (S:=fun w'=>w'.cell? ⟨r,4,none⟩=some (.slice (some ads) N cs)∧w'.cell? (ads.add ((N - 1) * 2))=some (.int .i64 k)∧w'.cell? ⟨(ads.add ((N - 1) * 2)).block,(ads.add ((N - 1) * 2)).off+1,none⟩=some (.int .i64 p)) (by kernel_rfl) ⟨g4,l1,l2⟩ (fun hHeld=>?_)
 refine wpAnyH_take (i:=0) (oi:=?oit10) (v:=?vt10) ?hit10 (by kernel_rfl) (by kernel_rfl) (by kernel_rfl) ?hQt10 (Or.inl ⟨?hwt10,?hyt10⟩) (by assumption) ?restt10
 case hit10=>(first | (simp only [lz0,lz1,lz2];rfl) | rfl)
 case hQt10=>exact fun _ _ _ h=>h
 case hwt10=>rfl
 case hyt10=>((intro w hSw;go_simp);first | done | with_reducible rfl)
 try simp only [Act.put,lz3,lz4,lz5]
 refine wpAnyH_take (i:=4) (oi:=?oit24) (v:=?vt24) ?hit24 (by kernel_rfl) (by kernel_rfl) (by kernel_rfl) ?hQt24 (Or.inl ⟨?hwt24,?hyt24⟩) (by assumption) ?restt24
 case hit24=>(first | (simp only [lz0,lz1,lz2];rfl) | rfl)
 case hQt24=>exact fun _ _ _ h=>h
 case hwt24=>rfl
 case hyt24=>((intro w hSw;go_simp);first | done | with_reducible rfl)
 try simp only [Act.put,lz3,lz4,lz5]
 refine wpAnyH_take (i:=1) (oi:=?oit31) (v:=?vt31) ?hit31 (by kernel_rfl) (by kernel_rfl) (by kernel_rfl) ?hQt31 (Or.inl ⟨?hwt31,?hyt31⟩) (by assumption) ?restt31
 case hit31=>(first | (simp only [lz0,lz1,lz2];rfl) | rfl)
 case hQt31=>exact fun _ _ _ h=>h
 case hwt31=>rfl
 case hyt31=>((intro w hSw;go_simp);first | done | with_reducible rfl)
 try simp only [Act.put,lz3,lz4,lz5]
 refine wpAnyH_take (i:=5) (oi:=?oit45) (v:=?vt45) ?hit45 (by kernel_rfl) (by kernel_rfl) (by kernel_rfl) ?hQt45 (Or.inl ⟨?hwt45,?hyt45⟩) (by assumption) ?restt45
 case hit45=>(first | (simp only [lz0,lz1,lz2];rfl) | rfl)
 case hQt45=>exact fun _ _ _ h=>h
 case hwt45=>rfl
 case hyt45=>((intro w hSw;go_simp);first | done | with_reducible rfl)
 try simp only [Act.put,lz3,lz4,lz5]
 refine wpAnyH_take (i:=2) (oi:=?oit52) (v:=?vt52) ?hit52 (by kernel_rfl) (by kernel_rfl) (by kernel_rfl) ?hQt52 (Or.inl ⟨?hwt52,?hyt52⟩) (by assumption) ?restt52
 case hit52=>(first | (simp only [lz0,lz1,lz2];rfl) | rfl)
 case hQt52=>exact fun _ _ _ h=>h
 case hwt52=>rfl
 case hyt52=>((intro w hSw;go_simp);first | done | with_reducible rfl)
 try simp only [Act.put,lz3,lz4,lz5]
 refine wpAnyH_take (i:=6) (oi:=?oit66) (v:=?vt66) ?hit66 (by kernel_rfl) (by kernel_rfl) (by kernel_rfl) ?hQt66 (Or.inl ⟨?hwt66,?hyt66⟩) (by assumption) ?restt66
 case hit66=>(first | (simp only [lz0,lz1,lz2];rfl) | rfl)
 case hQt66=>exact fun _ _ _ h=>h
 case hwt66=>rfl
 case hyt66=>((intro w hSw;go_simp);first | done | with_reducible rfl)
 try simp only [Act.put,lz3,lz4,lz5]
 refine wpAnyH_take (i:=3) (oi:=?oit73) (v:=?vt73) ?hit73 (by kernel_rfl) (by kernel_rfl) (by kernel_rfl) ?hQt73 (Or.inl ⟨?hwt73,?hyt73⟩) (by assumption) ?restt73
 case hit73=>(first | (simp only [lz0,lz1,lz2];rfl) | rfl)
 case hQt73=>exact fun _ _ _ h=>h
 case hwt73=>rfl
 case hyt73=>((intro w hSw;go_simp);first | done | with_reducible rfl)
 try simp only [Act.put,lz3,lz4,lz5]
 refine wpAnyH_take (i:=7) (oi:=?oit87) (v:=?vt87) ?hit87 (by kernel_rfl) (by kernel_rfl) (by kernel_rfl) ?hQt87 (Or.inl ⟨?hwt87,?hyt87⟩) (by assumption) ?restt87
 case hit87=>(first | (simp only [lz0,lz1,lz2];rfl) | rfl)
 case hQt87=>exact fun _ _ _ h=>h
 case hwt87=>rfl
 case hyt87=>((intro w hSw;go_simp);first | done | with_reducible rfl)
 try simp only [Act.put,lz3,lz4,lz5]
 refine wpAnyH_take (i:=8) (oi:=?oit98) (v:=?vt98) ?hit98 (by kernel_rfl) (by kernel_rfl) (by kernel_rfl) ?hQt98 (Or.inl ⟨?hwt98,?hyt98⟩) (by assumption) ?restt98
 case hit98=>(first | (simp only [lz0,lz1,lz2];rfl) | rfl)
 case hQt98=>exact fun _ _ _ h=>h
 case hwt98=>rfl
 case hyt98=>((intro w hSw;go_simp);first | done | with_reducible rfl)
 try simp only [Act.put,lz3,lz4,lz5]
 refine wpAnyH_take (i:=9) (oi:=?oit109) (v:=?vt109) ?hit109 (by kernel_rfl) (by kernel_rfl) (by kernel_rfl) ?hQt109 (Or.inl ⟨?hwt109,?hyt109⟩) (by assumption) ?restt109
 case hit109=>(first | (simp only [lz0,lz1,lz2];rfl) | rfl)
 case hQt109=>exact fun _ _ _ h=>h
 case hwt109=>rfl
 case hyt109=>((intro w hSw;go_simp);first | done | with_reducible rfl)
 try simp only [Act.put,lz3,lz4,lz5]
 refine wpAnyH_take (i:=10) (oi:=?oit1110) (v:=?vt1110) ?hit1110 (by kernel_rfl) (by kernel_rfl) (by kernel_rfl) ?hQt1110 (Or.inl ⟨?hwt1110,?hyt1110⟩) (by assumption) ?restt1110
 case hit1110=>(first | (simp only [lz0,lz1,lz2];rfl) | rfl)
 case hQt1110=>exact fun _ _ _ h=>h
 case hwt1110=>rfl
 case hyt1110=>((intro w hSw;go_simp);first | done | with_reducible rfl)
 try simp only [Act.put,lz3,lz4,lz5]
 refine wpAnyH_take (i:=11) (oi:=?oit1211) (v:=?vt1211) ?hit1211 (by kernel_rfl) (by kernel_rfl) (by kernel_rfl) ?hQt1211 (Or.inl ⟨?hwt1211,?hyt1211⟩) (by assumption) ?restt1211
 case hit1211=>(first | (simp only [lz0,lz1,lz2];rfl) | rfl)
 case hQt1211=>exact fun _ _ _ h=>h
 case hwt1211=>rfl
 case hyt1211=>((intro w hSw;go_simp);first | done | with_reducible rfl)
 try simp only [Act.put,lz3,lz4,lz5]
 refine wpAnyH_ready (rs:=[12]) (by kernel_rfl) (by simp) ?_
 refine AllReadyH.cons (o:=?ot13) ?ht13 ?st13 AllReadyH.nil
 case ht13=>(simp only [lz0,lz1,lz2];rfl)
 case st13=>
  intro K hK
  go_simp
  obtain ⟨W1,hW1⟩:∃ z,z=(w.alloc (.cells #[.int .i64 0,.int .i64 0] 201)).drew:=⟨_,rfl⟩
  have HN1:Hid (Blk W1 w.heap.size 201 #[.int .i64 0,.int .i64 0]):=Lib.hid (by rw [hW1];exact (Blk.new w _ _).drew)
  rw [← hW1]
  have hb1:Below w.heap.size w W1:=by rw [hW1];exact ((Below.refl _ w).alloc (Nat.le_refl _) _).drew
  have HB1:=Lib.hid hb1
  clear hW1 hb1
  refine hK.out _ _ ⟨below_cells HB1.out g4,below_cells HB1.out l1,below_cells HB1.out l2⟩ (fun ht14=>?_)
  clear hK K
  try simp only [Act.put,lz3,lz4,lz5]
  refine wpAnyH_ready (rs:=[13]) (by kernel_rfl) (by simp) ?_
  refine AllReadyH.cons (o:=?ot15) ?ht15 ?st15 AllReadyH.nil
  case ht15=>(simp only [lz0,lz1,lz2];rfl)
  case st15=>
   intro K hK
   have y0:=HN1.out.cell 0
   have y1:=HN1.out.cell 1
   simp only [lz0,lz1,lz2] at y0 y1
   have z0:=HN1.out.frozen 0
   have z1:=HN1.out.frozen 1
   go_simp
   clear y0 y1 z0 z1
   obtain ⟨W2,hW2⟩:∃ z,z=(W1.setCell ⟨w.heap.size,0,none⟩ (.int .i64 k)).setCell ⟨w.heap.size,1,none⟩ (.int .i64 p):=⟨_,rfl⟩
   have HN2:Hid (Blk W2 w.heap.size 201 #[.int .i64 k,.int .i64 p]):=Lib.hid (by
    rw [hW2]
    have:=(HN1.out.set_ 0 (.int .i64 k)).set_ 1 (.int .i64 p)
    simpa using this)
   rw [← hW2]
   have HB2:Hid (Below w.heap.size w W2):=Lib.hid (by rw [hW2];exact (HB1.out.setCell (Nat.le_refl _) _).setCell (Nat.le_refl _) _)
   clear hW2
   refine hK.out _ _ ⟨below_cells HB2.out g4,below_cells HB2.out l1,below_cells HB2.out l2⟩ (fun ht16=>?_)
   clear hK K
   try simp only [Act.put,lz3,lz4,lz5]
   refine wpAnyH_done (by kernel_rfl) ?_ _
   skip
   have HR2:=Lib.hid (HR.out.then HB2.out)
   obtain ⟨_,_,f2,f3,_⟩:=HR2.out.cl
   rw [← HNb.out] at f2
   rw [← HNc.out] at f3
   have f1:W2.cell? ⟨w.heap.size,1,none⟩=some (.int .i64 p):=(two_cells HN2.out).2
   have x1:=(own_int_cell HR2.out.behR HBG.out).1
   have x2:=(own_int_cell HR2.out.befR HPA.out).1
   clear g4 l1 l2
   go_wp2_with fail
   clear f1 f2 f3 x1 x2
   obtain ⟨d1,d2,d3,d4,d5⟩:=HO.out.drop3 HS.out i
   have D1:=Lib.hid d1
   have D2:=Lib.hid d2
   have D3:=Lib.hid d3
   have D4:=Lib.hid d4
   have D5:=Lib.hid d5
   clear d1 d2 d3 d4 d5
   refine (drop_any w0 W2 r b V HC.out HR2.out HS.out.sorted HST1.out (fun x hx=>HS.out.at_ (by
    obtain ⟨j,_,hj⟩:=stepAhead_some.1 hx
    exact ⟨j,hj⟩))).mono ?_
   rintro e W3 ⟨rfl,v3,hR3,hK3⟩
   have HR3:=Lib.hid hR3
   have HK3:=Lib.hid hK3
   clear hR3 hK3
   go_wp2_with fail
   refine (drop_any w0 W3 r b V HC.out HR3.out D1.out.sorted (HO.out.stepAt HP.out (by omega)) (fun x hx=>D1.out.at_ (D2.out x hx))).mono ?_
   rintro e W4 ⟨rfl,v4,hR4,hK4⟩
   have HR4:=Lib.hid hR4
   have HK4:=Lib.hid (HK3.out.trans hK4)
   clear hR4 hK4
   go_wp2_with fail
   refine (drop_any w0 W4 r b V HC.out HR4.out D3.out.sorted (HO.out.stepAt HG.out hil) (fun x hx=>D3.out.at_ (D4.out x hx))).mono ?_
   rintro e W5 ⟨rfl,v5,hR5,hK5⟩
   have HR5:=Lib.hid hR5
   have HK5:=Lib.hid (HK4.out.trans hK5)
   clear hR5 hK5
   have HN5:=Lib.hid (HK5.out.blk HN2.out HNR.out (fun e=>HNS.out (by simpa [Value.ownBlock] using e)))
   obtain ⟨Ac,Bc,ca',cb',bp,D,csC,hC5⟩:=HC.out.below HR5.out.below
   obtain ⟨adm,e1,_,_,mt⟩:=hC5.mer.at_ k m HM.out
   subst e1
   have fm:=(hC5.mer.bound m (List.mem_of_getElem? HM.out)).2.2
   obtain ⟨m0,m1,_,_,_⟩:=HR5.out.cl
   have mc:W5.cell? ⟨b,1,none⟩=some (.slice (some adm) V.mer.length cb'):=by rw [hC5.blk.cell 1];exact hC5.c1
   have fk:=(two_cells HN5.out).1
   obtain ⟨x1,z1⟩:=own_int_cell HR5.out.atR HAP.out
   rw [← HNa.out] at m1
   clear hC5
   go_wp2_with fail
   go_still_tail 18,(by kernel_rfl)
   change wpList _ _ _ _ _ W5.drew
   go_wp2_with fail
   obtain ⟨W6,hW6⟩:∃ z,z=(W5.setCell (ada.add p) (.int .i64 m.t)).drew:=⟨_,rfl⟩
   rw [← hW6]
   have hR6:=(HR5.out.setAt (p:=p) (x:=m.t) fm).then ((Below.refl _ _).drew)
   rw [← hW6] at hR6
   have HR6:=Lib.hid hR6
   have HN6:Hid (Blk W6 w.heap.size 201 #[.int .i64 k,.int .i64 p]):=Lib.hid (by rw [hW6];exact (Blk.far HN5.out (by rw [add_block];exact fun e=>HNA.out e.symm) _).drew)
   clear hW6 hR6 mt mc m0 m1 fk x1 z1
   obtain ⟨_,_,_,m3,_⟩:=HR6.out.cl
   obtain ⟨x2,_⟩:=own_int_cell HR6.out.behR HBQ.out
   obtain ⟨x1,z1⟩:=own_int_cell HR6.out.behR HBG.out
   rw [← HNc.out] at m3
   go_still_tail 13,(by kernel_rfl)
   change wpList _ _ _ _ _ W6.drew
   go_wp2_with fail
   obtain ⟨W7,hW7⟩:∃ z,z=(W6.setCell (adc.add p) (.int .i64 (q:Int))).drew:=⟨_,rfl⟩
   rw [← hW7]
   have hR7:=(HR6.out.setBeh (p:=p) (x:=(q:Int)) ⟨by omega,by omega⟩).then ((Below.refl _ _).drew)
   rw [← hW7] at hR7
   have HR7:=Lib.hid hR7
   clear hW7 hR7 m3 x1 x2 z1
   obtain ⟨_,_,m2,m3,_⟩:=HR7.out.cl
   have hbq':(behind.set p (q:Int))[g]?=some (q:Int):=by rw [List.getElem?_set_ne (by omega)];exact HBQ.out
   obtain ⟨x2,_⟩:=own_int_cell (ad:=adc) (c:=cc) (n:=behind.length) (l:=behind.set p (q:Int)) (by have:=HR7.out.behR;rw [List.length_set] at this;exact this) hbq'
   obtain ⟨x1,z1⟩:=own_int_cell HR7.out.befR HQB.out
   rw [← HNc.out] at m3
   rw [← HNb.out] at m2
   clear hbq'
   have hO8:=HO.out.merge HP.out HG.out HQ.out m.t
   obtain ⟨hA8,hB8⟩:=HO.out.add2 HS.out HP.out HG.out HQ.out m.t
   have hp':(qs.eraseIdx (i+1))[i]?=some p:=by rw [List.getElem?_eraseIdx,if_pos (by omega)];exact HP.out
   have hil':i < (mergeAt l i m.t).length:=by rw [mergeAt_len hil];omega
   have hpa':(before.set q (p:Int))[p]?=some pa:=by rw [List.getElem?_set_ne (by omega)];exact HPA.out
   have hR8:=(HR7.out.setBef (p:=q) (x:=(p:Int)) ⟨by omega,by omega⟩).then ((Below.refl _ _).drew)
   obtain ⟨_,_,n2,_,_⟩:=hR8.cl
   obtain ⟨y1,_⟩:=own_int_cell (ad:=adb) (c:=cb) (n:=before.length) (l:=before.set q (p:Int)) (by have:=hR8.befR;rw [List.length_set] at this;exact this) hpa'
   rw [← HNb.out] at n2
   obtain ⟨W8,hW8⟩:∃ z,z=(W7.setCell (adb.add q) (.int .i64 (p:Int))).drew:=⟨_,rfl⟩
   rw [← hW8] at hR8
   have n2':(W7.setCell (adb.add q) (.int .i64 (p:Int))).cell? ⟨r,2,none⟩=some (.slice (some adb) NB cb):=n2
   have y1':(W7.setCell (adb.add q) (.int .i64 (p:Int))).cell? (adb.add p)=some (.int .i64 pa):=y1
   obtain ⟨pa2,e1,hst2⟩:=hO8.ahead hp' hil' V.mer
   obtain rfl:pa=pa2:=by rw [hpa'] at e1;exact Option.some.inj e1
   have hst3:=hO8.stepAt (M:=V.mer) hp' hil'
   have l3:(st3 V.mer l qs i st).length+1≤st.length:=by
    have a1:=dropO_len st (stepAhead V.mer l qs i)
    have a2:=dropO_less D1.out (D2.out _ HSTEP.out)
    have a3:=dropO_len (dropO (dropO st (stepAhead V.mer l qs i)) (some (k,p))) (stepOf V.mer l qs (i+1))
    show (dropO (dropO (dropO st (stepAhead V.mer l qs i)) (stepOf V.mer l qs i)) (stepOf V.mer l qs (i+1))).length+1≤_
    rw [HSTEP.out]
    omega
   have l4:=addO_len (st3 V.mer l qs i st) (stepAhead V.mer (mergeAt l i m.t) (qs.eraseIdx (i+1)) i)
   have l5:=addO_len (addO (st3 V.mer l qs i st) (stepAhead V.mer (mergeAt l i m.t) (qs.eraseIdx (i+1)) i)) (stepOf V.mer (mergeAt l i m.t) (qs.eraseIdx (i+1)) i)
   have L3:=Lib.hid l3
   have L4:=Lib.hid l4
   have L5:=Lib.hid l5
   have HT2:=Lib.hid hst2
   have HT3:=Lib.hid hst3
   have HR8:=Lib.hid hR8
   have HW8:=Lib.hid hW8
   have HO8:=Lib.hid hO8
   have HA8:=Lib.hid hA8
   have HB8:=Lib.hid hB8
   clear hpa' hR8 hW8 hO8 hA8 hB8 n2 y1 hp' hil' e1 hst2 hst3 l3 l4 l5
   go_still_tail 13,(by kernel_rfl)
   change wpList _ _ _ _ _ W7.drew
   go_wp2_with fail
   rw [← HW8.out]
   clear m2 m3 x1 x2 z1 n2' y1'
   refine (add_any w0 W8 r b V HC.out HR8.out D5.out.sorted HT2.out (by have h1:=L3.out;have h2:=HN.out;exact (by omega:(st3 V.mer l qs i st).length < 1048576)) (fun x hx=>by
    obtain ⟨j,_,hj⟩:=stepAhead_some.1 hx
    have:=HO8.out.step_small hj
    omega)).mono ?_
   rintro e W9 ⟨rfl,v9,hR9,_⟩
   have HR9:=Lib.hid hR9
   clear hR9
   go_wp2_with fail
   refine (add_any w0 W9 r b V HC.out HR9.out HA8.out.sorted HT3.out (by have h1:=L3.out;have h2:=HN.out;have h3:=L4.out;exact (by omega:(addO (st3 V.mer l qs i st) (stepAhead V.mer (mergeAt l i m.t) (qs.eraseIdx (i+1)) i)).length < 1048576)) (fun x hx=>by
    have:=HO8.out.step_small hx
    omega)).mono ?_
   rintro e W10 ⟨rfl,v10,hR10,_⟩
   have HR10:=Lib.hid hR10
   clear hR10
   go_wp2_with fail
   go_end0
   refine ⟨k,i,qs.eraseIdx (i+1),_,_,_,_,rfl,HBEST.out,⟨_,_,_,_,HR10.out⟩,?_,?_,?_⟩
   ·rw [HTO.out];exact HO8.out
   ·rw [HTO.out];exact HB8.out
   ·have h1:=L3.out
    have h2:=L4.out
    have h3:=L5.out
    exact (by omega:(addO (addO (st3 V.mer l qs i st) (stepAhead V.mer (mergeAt l i m.t) (qs.eraseIdx (i+1)) i)) (stepOf V.mer (mergeAt l i m.t) (qs.eraseIdx (i+1)) i)).length≤st.length+1)
end Go.Proofs.YthcjikpabpgpfaaGreat
