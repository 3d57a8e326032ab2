import Derived.Test.YthcjikpabpgpfaaGreatZp0
import Derived.Test.YthcjikpabpgpfaaGreatZp27
set_option linter.unusedSimpArgs false
set_option maxHeartbeats 16000000
set_option maxRecDepth 100000
namespace Go.Proofs.YthcjikpabpgpfaaGreat
open Go.RowKit Go.Maps Go.WideMaps
theorem find_take {L:List Nm} {k:Nat} {x:Nm} (hx:L[k]?=some x):findT L x=(k:Int)↔findT (L.take k) x < 0:=by
 have hk:=(List.getElem?_eq_some_iff.1 hx).1
 constructor
 ·intro h
  rw [findT_none]
  ·omega
  ·intro y hy e
   obtain ⟨j,hj,rfl⟩:=List.mem_iff_getElem.1 hy
   rw [List.length_take] at hj
   rcases findT_cases L x with ⟨h1,h2⟩ | ⟨i,h1,_,h3⟩
   ·omega
   ·obtain rfl:i=k:=by omega
    rw [List.getElem_take] at e
    exact h3 j _ (by omega) (List.getElem?_eq_getElem (by omega)) e
 ·intro h
  refine findT_at hx fun j y hj hy e=>?_
  rcases findT_cases (L.take k) x with ⟨_,h2⟩ | ⟨i,h1,_⟩
  ·exact h2 y (List.mem_of_getElem? (i:=j) (by rw [List.getElem?_take,if_pos hj];exact hy)) e
  ·omega
theorem tokOk_eq {L:List Nm} {k:Nat} {x:Nm} (hx:L[k]?=some x):tokOk L k=(decide (0 < x.length)&&(decide (x.length≤16)&&decide (findT (L.take k) x < 0))):=by
 unfold tokOk
 rw [List.getD_eq_getElem?_getD,hx]
 simp only [Option.getD_some]
 congr 2
 exact decide_eq_decide.2 (find_take hx)
theorem vtake_snoc {α:Type} {L:List α} {k:Nat} {x:α} (hx:L[k]?=some x):L.take (k+1)=L.take k++[x]:=by
 rw [List.take_add_one,hx];rfl
theorem tokOk_short {L:List Nm} (h:∀ k,k < L.length→tokOk L k=true):∀ x∈L,1≤x.length∧x.length≤16:=fun x hx=>by
 obtain ⟨k,hk,rfl⟩:=List.mem_iff_getElem.1 hx
 have:=h k hk
 rw [tokOk_eq (List.getElem?_eq_getElem hk)] at this
 simp only [Bool.and_eq_true,decide_eq_true_eq] at this
 exact ⟨this.1,this.2.1⟩
theorem merOk_eq {V:Voc} (h:∀ k,k < V.tok.length→tokOk V.tok k=true) {k:Nat} {m:Mg} (hm:V.mer[k]?=some m):merOk V k=mayM ⟨V.tok,V.mer.take k⟩ m:=by
 rw [Bool.eq_iff_iff,merOk_iff hm]
 unfold mayM freeB
 simp only [Bool.and_eq_true,decide_eq_true_eq,Bool.not_eq_true']
 have e:bothT ⟨V.tok,V.mer.take k⟩ m.a m.b=V.tok.getD m.a.toNat []++V.tok.getD m.b.toNat []:=rfl
 rw [e]
 constructor
 ·rintro ⟨⟨h1,h2,h3,h4,h5,h6⟩,h7,h8⟩
  have ht:V.tok[m.t.toNat]?=some (V.tok.getD m.a.toNat []++V.tok.getD m.b.toNat []):=by
   rw [← h8,List.getD_eq_getElem?_getD,List.getElem?_eq_getElem (by omega)]
   rfl
  have hk:=h m.t.toNat (by omega)
  rw [tokOk_eq ht] at hk
  simp only [Bool.and_eq_true,decide_eq_true_eq] at hk
  have hf:=(find_take ht).2 hk.2.2
  exact ⟨⟨⟨h1,h2⟩,⟨h3,h4⟩,h7⟩,by omega,by omega⟩
 ·rintro ⟨⟨⟨h1,h2⟩,⟨h3,h4⟩,h7⟩,h8,h9⟩
  rcases findT_cases V.tok (V.tok.getD m.a.toNat []++V.tok.getD m.b.toNat []) with ⟨hn,_⟩ | ⟨i,hi,hx,_⟩
  ·omega
  ·have hl:=(List.getElem?_eq_some_iff.1 hx).1
   refine ⟨⟨h1,h2,h3,h4,by omega,by omega⟩,h7,?_⟩
   have:m.t.toNat=i:=by omega
   rw [this,List.getD_eq_getElem?_getD,hx]
   rfl
theorem vCheck_any (w:World) (A B:Option Addr) (n m ca cb:Nat) (V:Voc) (hV:VocSee w A B n m ca cb V):
  Calls Tryz.prog 38 #[vocV A B n m ca cb] w fun e w'=>e=.returned (.int .i64 (checkV V))∧Below w.heap.size w w':=by
 obtain ⟨R,hR⟩:∃ R,R=checkV V:=⟨_,rfl⟩
 rw [← hR]
 unfold checkV at hR
 have HV:=Lib.hid hV
 have hn:=hV.tok.len
 have hm:=hV.mer.len
 have hn63:n≤9223372036854775807:=hV.tok.fit
 have hm63:m≤9223372036854775807:=hV.mer.fit
 rw [hn,hm] at hR
 have HN:=Lib.hid hn
 have HM:=Lib.hid hm
 clear hV hn hm
 unfold vocV
 by_cases hbig:512 < n∨512 < m
 ·rw [if_pos hbig] at hR
  have HR:=Lib.hid hR
  clear hR
  by_cases h1:512 < n
  ·have d1:decide ((512:Int) < (n:Int))=true:=by simp;omega
   go_enter Tryz.func38,Tryz.ntmps38
   go_wp2
   go_ret
   exact ⟨by rw [HR.out];rfl,(Below.refl _ w).alloc (Nat.le_refl _) _⟩
  ·have d1:decide ((512:Int) < (n:Int))=false:=by simp;omega
   have d2:decide ((512:Int) < (m:Int))=true:=by simp;omega
   go_enter Tryz.func38,Tryz.ntmps38
   go_wp2
   go_ret
   exact ⟨by rw [HR.out];rfl,(Below.refl _ w).alloc (Nat.le_refl _) _⟩
 ·rw [if_neg hbig] at hR
  have HR:=Lib.hid hR
  clear hR
  have hn512:n≤512:=by omega
  have hm512:m≤512:=by omega
  have d1:decide ((512:Int) < (n:Int))=false:=by simp;omega
  have d2:decide ((512:Int) < (m:Int))=false:=by simp;omega
  have b1:Below w.heap.size w (w.alloc (.cells #[.slice A n ca,.slice B m cb] 30)):=(Below.refl _ w).alloc (Nat.le_refl _) _
  obtain ⟨W1,hW1⟩:∃ W1,W1=w.alloc (.cells #[.slice A n ca,.slice B m cb] 30):=⟨_,rfl⟩
  have hv0:Blk W1 w.heap.size 30 #[.slice A n ca,.slice B m cb]:=by rw [hW1];exact Blk.new _ _ _
  rw [← hW1] at b1
  have hs1:W1.heap.size=w.heap.size+1:=by rw [hW1];simp
  have y0:=hv0.cell 0
  have y1:=hv0.cell 1
  simp only [lz0,lz1,lz2] at y0 y1
  have HW:=Lib.hid hW1
  have HB1:=Lib.hid b1
  have HV0:=Lib.hid hv0
  have HS1:=Lib.hid hs1
  clear hW1 b1 hv0 hs1 hbig
  go_enter Tryz.func38,Tryz.ntmps38
  go_wp2_with fail
  rw [← HW.out]
  refine (newGrowing_any W1).mono ?_
  rintro e w2 ⟨b,rfl,hg2,hb2⟩
  have HG2:=Lib.hid hg2
  have HB2:=Lib.hid hb2
  have hv2:=HV0.out.below hb2 HV0.out.lt
  have y0':=hv2.cell 0
  simp only [lz0,lz1,lz2] at y0'
  clear hg2 hb2 y0 y1 hv2
  unfold at0
  go_wp2_with fail
  go_loopw [22] (fun i wr=>∃ (k:Nat) (F:Nat→Prop),k≤n∧i=.int .i64 k∧Grow wr F b ⟨V.tok.take k,[]⟩∧(∀ i,F i→W1.heap.size≤i)∧Below W1.heap.size W1 wr∧∀ c,c < k→tokOk V.tok c=true) (fun i _=>n - (intOf i).toNat)
  case atStart=>exact ⟨0,_,by omega,rfl,HG2.out,fun i hi=>hi.1,HB2.out,fun c h=>by omega⟩
  case round=>
   clear y0'
   obtain ⟨k,F,hk,rfl,hG,hF,hB,hok⟩:=hrel
   have HG:=Lib.hid hG
   have HF:=Lib.hid hF
   have HB:=Lib.hid hB
   have HOK:=Lib.hid hok
   have HBW:=Lib.hid (below_then HB1.out hB HB1.out.size)
   clear hG hF hB hok
   rcases Nat.lt_or_ge k n with hlt | hge
   ·have hlt':(k:Int) < (n:Int):=by omega
    obtain ⟨x,hx⟩:∃ x,V.tok[k]?=some x:=⟨_,List.getElem?_eq_getElem (by rw [HN.out];exact hlt)⟩
    obtain ⟨ad,A',c',rfl,ec,hc',hA⟩:=HV.out.tok.at_ k x hx
    have ec':=(HBW.out.cell (World.block_lt_of_cell? w _ ec)).trans ec
    have htk:=tokOk_eq hx
    have HTS:=Lib.hid (vtake_snoc hx)
    have hA':=hA.below HBW.out
    have hap:∀ ad,A'=some ad→0 < x.length→¬ F ad.block:=fun ad e h0 hf=>by
     have h1:=hA.2.2 ad e h0
     have h2:=HF.out _ hf
     have h3:=HS1.out
     omega
    have hx16:V.tok.length=n:=HN.out
    have HA:=Lib.hid hA'
    have HAP:=Lib.hid hap
    have HC:=Lib.hid hc'
    clear hA hA' hap ec hx hc' hx16
    cases hr:(decide (0 < x.length)&&(decide (x.length≤16)&&decide (findT (V.tok.take k) x < 0))) with
    | false=>
     rw [hr] at htk
     have HRR:=Lib.hid hr
     have hfin:R=52:=by
      rw [HR.out,if_pos]
      rw [all_range_false hlt htk]
      simp
     have HFIN:=Lib.hid hfin
     clear hr htk hfin
     go_wp2_with fail
     refine (mayAdd_is _ F b ⟨V.tok.take k,[]⟩ HG.out A' x.length c' x HA.out HRR.out).mono ?_
     rintro e w3 ⟨rfl,hb3⟩
     have HB3:=Lib.hid (below_then HBW.out hb3 HBW.out.size)
     clear hb3 ec'
     go_wp2
     go_ret
     exact ⟨by rw [HFIN.out];rfl,HB3.out⟩
    | true=>
     rw [hr] at htk
     have HRR:=Lib.hid hr
     have HTK:=Lib.hid htk
     have hnew:findT (V.tok.take k) x < 0:=by simp only [Bool.and_eq_true,decide_eq_true_eq] at hr;exact hr.2.2
     have HNEW:=Lib.hid hnew
     clear hr htk hnew
     go_wp2_with fail
     refine (mayAdd_is _ F b ⟨V.tok.take k,[]⟩ HG.out A' x.length c' x HA.out HRR.out).mono ?_
     rintro e w3 ⟨rfl,hb3⟩
     have HG3:=Lib.hid (HG.out.kept hb3)
     have HB3:=Lib.hid (below_then HB.out hb3 HB.out.size)
     have HTI:=Lib.hid (⟨A',c',rfl,HC.out,HA.out.below hb3,HAP.out⟩:TokIn w3 F (.slice A' x.length c') x)
     clear hb3 ec'
     go_wp2_with fail
     refine (addToken_any w3 F b ⟨V.tok.take k,[]⟩ HG3.out A' x.length c' x HTI.out HNEW.out (by show (V.tok.take k).length < _;rw [List.length_take];omega)).mono ?_
     rintro e w4 ⟨rfl,hg4,hk4⟩
     have HG4:=Lib.hid hg4
     have HB4:=Lib.hid (HB3.out.trans (hk4.toBelow HB3.out.size HF.out))
     clear hg4 hk4
     go_wp2
     go_roundw
     case rel=>
      refine ⟨k+1,_,by omega,by go_num,by rw [HTS.out];exact HG4.out,fun i hi=>?_,HB4.out,fun c hc=>?_⟩
      ·rcases hi with hi | hi
       ·exact HF.out i hi
       ·have:=HB3.out.size
        omega
      ·rcases Nat.lt_or_ge c k with h | h
       ·exact HOK.out c h
       ·obtain rfl:c=k:=by omega
        exact HTK.out
     case measure=>simp [intOf];omega
   ·obtain rfl:k=n:=by omega
    have hkz:¬ ((k:Int) < (k:Int)):=by omega
    have hall:(List.range k).all (tokOk V.tok)=true:=all_range_true HOK.out
    have htl:V.tok.take k=V.tok:=List.take_of_length_le (by rw [HN.out];exact Nat.le_refl _)
    have HG':=Lib.hid (htl ▸ HG.out)
    have HTOK:=Lib.hid (fun c (hc:c < V.tok.length)=>HOK.out c (by rw [← HN.out];exact hc))
    have hres:R=if ¬ (List.range 256).all (fun c=>decide (0≤findT V.tok [UInt8.ofNat c]))=true then 51 else if ¬ (List.range m).all (merOk V)=true then 53 else 0:=by
     rw [HR.out,if_neg (by rw [hall];simp)]
    have HRES:=Lib.hid hres
    clear hall htl hres HG
    go_wp2_with fail
    refine (hasSingles_any wr F b ⟨V.tok,[]⟩ HG'.out).mono ?_
    rintro e w3 ⟨rfl,hb3⟩
    have HG3:=Lib.hid (HG'.out.kept hb3)
    have HB3:=Lib.hid (below_then HB.out hb3 HB.out.size)
    have HBW3:=Lib.hid (below_then HBW.out hb3 HBW.out.size)
    have hv3:=HV0.out.below HB3.out (by have:=HS1.out;omega)
    have y1:=hv3.cell 1
    simp only [lz0,lz1,lz2] at y1
    clear hb3 hv3
    cases hsg:(List.range 256).all (fun c=>decide (0≤findT V.tok [UInt8.ofNat c])) with
    | false=>
     have hfin:R=51:=by rw [HRES.out,if_pos (by rw [hsg];simp)]
     have HFIN:=Lib.hid hfin
     clear hfin
     go_wp2
     go_ret
     exact ⟨by rw [HFIN.out];rfl,HBW3.out⟩
    | true=>
     have hres:R=if ¬ (List.range m).all (merOk V)=true then 53 else 0:=by rw [HRES.out,if_neg (by rw [hsg];simp)]
     have HRES2:=Lib.hid hres
     clear hres
     go_wp2_with fail
     go_loopw [40] (fun i wr=>∃ (k:Nat) (F:Nat→Prop),k≤m∧i=.int .i64 k∧Grow wr F b ⟨V.tok,V.mer.take k⟩∧(∀ i,F i→W1.heap.size≤i)∧Below W1.heap.size W1 wr∧∀ c,c < k→merOk V c=true) (fun i _=>m - (intOf i).toNat)
     case atStart=>exact ⟨0,F,by omega,rfl,HG3.out,HF.out,HB3.out,fun c h=>by omega⟩
     case round=>
      clear HB HF HG3 HB3 HBW HBW3 HG' y1
      obtain ⟨i,F,hi,rfl,hG,hF,hB,hok⟩:=hrel
      have HG:=Lib.hid hG
      have HF:=Lib.hid hF
      have HB:=Lib.hid hB
      have HOK3:=Lib.hid hok
      have HBW:=Lib.hid (below_then HB1.out hB HB1.out.size)
      clear hG hF hB hok
      rcases Nat.lt_or_ge i m with hlt | hge
      ·have hlt':(i:Int) < (m:Int):=by omega
       obtain ⟨mg,hmg⟩:∃ mg,V.mer[i]?=some mg:=⟨_,List.getElem?_eq_getElem (by rw [HM.out];exact hlt)⟩
       obtain ⟨pb,rfl,ea,eb,et⟩:=(HV.out.mer.below HBW.out).at_ i mg hmg
       have hfit:mgFits mg:=HV.out.mer.bound mg (List.mem_of_getElem? hmg)
       have hmo:=merOk_eq HTOK.out hmg
       have HTS:=Lib.hid (vtake_snoc hmg)
       have hb1:=HB.out.alloc HB.out.size (.cells #[.int .i64 mg.a,.int .i64 mg.b,.int .i64 mg.t] 88)
       have hg1:=HG.out.kept ((Below.refl _ wr).alloc (Nat.le_refl _) (.cells #[.int .i64 mg.a,.int .i64 mg.b,.int .i64 mg.t] 88))
       obtain ⟨W4,hW4⟩:∃ W4,W4=wr.alloc (.cells #[.int .i64 mg.a,.int .i64 mg.b,.int .i64 mg.t] 88):=⟨_,rfl⟩
       have hp4:Blk W4 wr.heap.size 88 #[.int .i64 mg.a,.int .i64 mg.b,.int .i64 mg.t]:=by rw [hW4];exact Blk.new _ _ _
       rw [← hW4] at hb1 hg1
       have HW4:=Lib.hid hW4
       have HP4:=Lib.hid hp4
       have HB4:=Lib.hid hb1
       have HG4:=Lib.hid hg1
       have HMO:=Lib.hid hmo
       have HFT:=Lib.hid hfit
       have z0:=hp4.cell 0
       have z1:=hp4.cell 1
       have z2:=hp4.cell 2
       simp only [lz0,lz1,lz2] at z0 z1 z2
       have HSHT:=Lib.hid (tokOk_short HTOK.out)
       clear hb1 hg1 hW4 hp4 hmo hfit hmg
       go_wp2_with fail
       try rw [← HW4.out]
       obtain ⟨r,hr⟩:∃ r,mayM ⟨V.tok,V.mer.take i⟩ mg=r:=⟨_,rfl⟩
       refine (mayMerge_any W4 F b ⟨V.tok,V.mer.take i⟩ HG4.out HSHT.out mg HFT.out).mono ?_
       rintro e w5 ⟨rfl,hb5⟩
       rw [hr] at HMO ⊢
       have HB5:=Lib.hid (below_then HB4.out hb5 HB4.out.size)
       have HG5:=Lib.hid (HG4.out.kept hb5)
       have hp5:=HP4.out.below hb5 HP4.out.lt
       have x0:=hp5.cell 0
       have x1:=hp5.cell 1
       have x2:=hp5.cell 2
       simp only [lz0,lz1,lz2] at x0 x1 x2
       clear hb5 hr hp5 ea eb et z0 z1 z2
       cases r with
       | false=>
        have hfin:R=53:=by
         rw [HRES2.out,if_pos]
         rw [all_range_false hlt HMO.out]
         simp
        have HFIN:=Lib.hid hfin
        clear hfin
        go_wp2
        go_ret
        exact ⟨by rw [HFIN.out];rfl,below_then HB1.out HB5.out HB1.out.size⟩
       | true=>
        go_wp2_with fail
        refine (addMerge_any w5 F b ⟨V.tok,V.mer.take i⟩ HG5.out mg HFT.out (by show (V.mer.take i).length < _;rw [List.length_take];omega)).mono ?_
        rintro e w6 ⟨rfl,hg6,hk6⟩
        have HG6:=Lib.hid hg6
        have HB6:=Lib.hid (HB5.out.trans (hk6.toBelow HB5.out.size HF.out))
        clear hg6 hk6 x0 x1 x2
        go_wp2
        go_roundw
        case rel=>
         refine ⟨i+1,_,by omega,by go_num,by rw [HTS.out];exact HG6.out,fun c hc=>?_,HB6.out,fun c hc=>?_⟩
         ·rcases hc with hc | hc
          ·exact HF.out c hc
          ·have:=HB5.out.size
           omega
         ·rcases Nat.lt_or_ge c i with h | h
          ·exact HOK3.out c h
          ·obtain rfl:c=i:=by omega
           exact HMO.out
        case measure=>simp [intOf];omega
      ·obtain rfl:i=m:=by omega
       have hiz:¬ ((i:Int) < (i:Int)):=by omega
       have hfin:R=0:=by rw [HRES2.out,if_neg (by rw [all_range_true HOK3.out];simp)]
       have HFIN:=Lib.hid hfin
       clear hfin
       go_wp2
       go_ret
       exact ⟨by rw [HFIN.out];rfl,HBW.out⟩
end Go.Proofs.YthcjikpabpgpfaaGreat
