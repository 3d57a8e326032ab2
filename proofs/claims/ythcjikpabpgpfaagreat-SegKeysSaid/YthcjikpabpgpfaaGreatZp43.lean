import Derived.Test.YthcjikpabpgpfaaGreatZp0
import Derived.Test.YthcjikpabpgpfaaGreatZp39
import Derived.Test.YthcjikpabpgpfaaGreatZp27
import Derived.Deep.LoopGhost
import Derived.Test.YthcjikpabpgpfaaGreatZp28
import Derived.Test.YthcjikpabpgpfaaGreatZp7
import Derived.Shelf.Abstract
set_option linter.unusedSimpArgs false
set_option maxHeartbeats 16000000
set_option maxRecDepth 100000
namespace Go.Proofs.YthcjikpabpgpfaaGreat
open Go.RowKit Go.Maps Go.WideMaps
theorem encode_any (w:World) (b:Nat) (V:Voc) (hC:Coder w b V) (hM:V.mer.length≤1000000) (A:Option Addr) (n c:Nat) (s:Nm) (hs:BytesIn w A n s):
  Calls Tryz.prog 21 #[at0 b,.slice A n c] w (ListOut w (encR V.mer s) (encE s)):=by
 have hsl:s.length=n:=by have:=hs.2.1.len;simpa using this
 have hn63:n≤9223372036854775807:=hs.1
 unfold encR encE at0
 rw [hsl]
 rcases Nat.lt_or_ge 4096 n with hlt | hge
 ·rw [if_pos hlt,if_pos hlt]
  clear hC hs
  have h1:(4096:Int) < (n:Int):=by omega
  go_enter Tryz.func21,Tryz.ntmps21
  go_wp2
  go_ret2
  exact ⟨_,rfl,World.ownsRow_nil _ _ _ _,Below.refl _ _⟩
 ·rw [if_neg (by omega),if_neg (by omega)]
  have h1:¬ (4096:Int) < (n:Int):=by omega
  have HC:=Lib.hid hC
  have HS:=Lib.hid hs
  have HSL:=Lib.hid hsl
  clear hC hs hsl
  go_enter Tryz.func21,Tryz.ntmps21
  go_wp2_with fail
  refine (newRow_any w b V HC.out A n c s HS.out (by omega) hM).mono ?_
  rintro e w1 ⟨r,st0,rfl,hR0,hS0,hl0⟩
  have hO0:=rowOK_init s
  have HR0:=Lib.hid hR0
  have HS0:=Lib.hid hS0
  have HL0:=Lib.hid hl0
  have HO0:=Lib.hid hO0
  clear hR0 hS0 hl0 hO0
  unfold at0
  go_wp2_with fail
  go_loopg [13] n (fun k _ wr=>∃ (l:List Int) (qs:List Nat) (at_ before behind:List Int) (st:List (Nat×Nat)),k=l.length∧encRun V.mer l.length l=encL V.mer s∧Row w wr r b at_ before behind st∧RowOK n l qs at_ before behind∧StOK st (stepSet V.mer l qs)∧st.length+l.length≤2 * n)
  case atStart=>exact ⟨_,_,_,_,_,_,by rw [bytesI_len,HSL.out],by rw [bytesI_len];rfl,HR0.out,HSL.out ▸ HO0.out,HS0.out,by rw [bytesI_len];have:=HL0.out;have:=HSL.out;omega⟩
  case round=>
   obtain ⟨l,qs,at_,before,behind,st,rfl,hE,hR,hO,hS,hB⟩:=hrel
   obtain ⟨va,vb,vc,vs,hI⟩:=hR
   obtain ⟨As,cs,rfl⟩:=own_slice hI.stR
   have g4:=hI.cl.2.2.2.2
   rcases Nat.eq_zero_or_pos st.length with h0 | hpos
   ·have hst:st=[]:=List.eq_nil_of_length_eq_zero h0
    have hbest:bestOf V.mer l=none:=bestOf_none fun j=>by
     cases hp:pairRk V.mer l j with
     | none=>rfl
     | some k=>
      obtain ⟨q,hq⟩:=hO.get (i:=j) (by have:=pairRk_in hp;omega)
      have:=(hS.mem (k,q)).2 ⟨j,stepOf_some.2 ⟨hq,hp⟩⟩
      rw [hst] at this
      cases this
    rw [encRun_done hbest] at hE
    have HI:=Lib.hid hI
    have HO:=Lib.hid hO
    have HE:=Lib.hid hE
    have hz:¬ (0:Int) < (st.length:Int):=by omega
    clear hI hO hS hE hbest hst h0
    go_wp2_with fail
    refine (list_any w wr r b ⟨_,_,_,_,HI.out⟩ HO.out (by omega)).mono ?_
    rintro e w2 ⟨v,rfl,hown,hb⟩
    obtain ⟨A2,c2,rfl⟩:=own_slice hown
    have HOWN:=Lib.hid hown
    have HB:=Lib.hid hb
    clear hown hb g4
    go_wp2_with fail
    go_ret2
    refine ⟨_,rfl,?_,?_⟩
    ·rw [← HE.out]
     exact own_leE HOWN.out HI.out.below.size
    ·exact below_then HI.out.below HB.out HI.out.below.size
   ·have HI:=Lib.hid hI
    have HO:=Lib.hid hO
    have HS2:=Lib.hid hS
    have HE:=Lib.hid hE
    have hz:(0:Int) < (st.length:Int):=by omega
    clear hI hO hS hE
    go_wp2_with fail
    refine (mergeFirst_any w wr r b V HC.out ⟨_,_,_,_,HI.out⟩ HO.out HS2.out hpos (by omega) (by omega) hM).mono ?_
    rintro e w2 ⟨k,i,qs',a',b',c',st',rfl,hbest,hR',hO',hS',hl'⟩
    have hi:=pairRk_in (bestOf_rk hbest)
    have hml:=mergeAt_len hi (toOf V.mer k)
    have hE2:encRun V.mer (mergeAt l i (toOf V.mer k)).length (mergeAt l i (toOf V.mer k))=encL V.mer s:=by
     rw [hml,← encRun_step hbest,show l.length - 1+1=l.length by omega]
     exact HE.out
    have HR':=Lib.hid hR'
    have HO':=Lib.hid hO'
    have HS':=Lib.hid hS'
    have HE2:=Lib.hid hE2
    have HML:=Lib.hid hml
    clear hR' hO' hS' hE2 hml hbest g4
    go_wp2_with fail
    go_roundg (l.length - 1)
    case measure=>omega
    case rel=>exact ⟨_,qs',a',b',c',st',HML.out.symm,HE2.out,HR'.out,HO'.out,HS'.out,by rw [HML.out];omega⟩
end Go.Proofs.YthcjikpabpgpfaaGreat
namespace Go.Proofs.YthcjikpabpgpfaaGreat
open Go.RowKit Go.Maps Go.WideMaps Go.Shelf
theorem walk1_any (W:World) (pb b:Nat) (A:Option Addr) (N ca:Nat) (i:Int) (h1:W.cell? ⟨pb,0,none⟩=some (at0 b)) (h2:W.cell? ⟨b,0,none⟩=some (.slice A N ca)):
  Calls Tryz.prog 119 (#[.int .i64 i]++#[.pointer (some ⟨pb,0,none⟩)]) W fun e w'=>e=.returned (.bool (decide (i < 0∨(N:Int)≤i)))∧w'=W:=by
 unfold at0 at h1
 by_cases hn:i < 0
 ·have hd:decide (i < 0)=true:=decide_eq_true hn
  rw [show decide (i < 0∨(N:Int)≤i)=true from decide_eq_true (.inl hn)]
  clear hn
  go_enter Tryz.func119,Tryz.ntmps119
  go_wp2
  go_ret
  exact ⟨rfl,rfl⟩
 ·have hd:decide (i < 0)=false:=decide_eq_false hn
  by_cases hN:(N:Int)≤i
  ·rw [show decide (i < 0∨(N:Int)≤i)=true from decide_eq_true (.inr hN)]
   go_enter Tryz.func119,Tryz.ntmps119
   go_wp2
   go_ret
   exact ⟨rfl,rfl⟩
  ·rw [show decide (i < 0∨(N:Int)≤i)=false from decide_eq_false (by omega)]
   go_enter Tryz.func119,Tryz.ntmps119
   go_wp2
   go_ret
   exact ⟨rfl,rfl⟩
def idxI (p:Int→Bool) (l:List Int):Int:=match l.findIdx? p with | some k=>(k:Int) | none=>-1
theorem idxI_some {p:Int→Bool} {l:List Int} {k:Nat} {x:Int} (hx:l[k]?=some x) (hp:p x=true) (hn:∀ (j:Nat) (y:Int),j < k→l[j]?=some y→p y=false):idxI p l=k:=by
 have h:l.findIdx? p=some k:=by
  rw [List.findIdx?_eq_some_iff_getElem]
  have hk:=(List.getElem?_eq_some_iff.1 hx)
  exact ⟨hk.1,by rw [hk.2];exact hp,fun j hj=>by simpa using hn j _ hj (List.getElem?_eq_getElem (Nat.lt_trans hj hk.1))⟩
 unfold idxI
 rw [h]
theorem idxI_none {p:Int→Bool} {l:List Int} (hn:∀ (j:Nat) (y:Int),l[j]?=some y→p y=false):idxI p l=-1:=by
 have h:l.findIdx? p=none:=by
  rw [List.findIdx?_eq_none_iff]
  intro x hx
  obtain ⟨j,hj⟩:=List.mem_iff_getElem?.1 hx
  exact hn j x hj
 unfold idxI
 rw [h]
theorem idxI_any (p:Int→Bool) (l:List Int):decide (0≤idxI p l)=l.any p:=by
 unfold idxI
 cases h:l.findIdx? p with
 | none=>
  rw [List.findIdx?_eq_none_iff] at h
  rw [show l.any p=false by rw [List.any_eq_false];intro x hx;simp [h x hx]]
  decide
 | some k=>
  rw [List.findIdx?_eq_some_iff_getElem] at h
  obtain ⟨h1,h2,_⟩:=h
  rw [show l.any p=true by rw [List.any_eq_true];exact ⟨_,List.getElem_mem h1,h2⟩]
  exact decide_eq_true (Int.natCast_nonneg k)
theorem idxFunc_any (f:Nat) (cap:Array Value) (eg:∀ args w,(callFunc f args).run Tryz.prog w=.ok (.enter f args) w) (w:World) (A:Option Addr) (n c:Nat) (l:List Int) (hl:IntsIn w A n l) (p:Int→Bool)
  (hcl:∀ x,Calls Tryz.prog f (#[.int .i64 x]++cap) w fun e w'=>e=.returned (.bool (p x))∧w'=w):
  Calls Tryz.prog 160 #[.slice A n c,.func (.func f) #[] cap] w fun e w'=>e=.returned (.int .i64 (idxI p l))∧w'=w:=by
 have hn63:n≤9223372036854775807:=hl.1
 have HL:=Lib.hid hl
 have HCL:=Lib.hid hcl
 have HLN:=Lib.hid hl.len
 obtain ⟨R,hR⟩:∃ R,R=idxI p l:=⟨_,rfl⟩
 rw [← hR]
 have HR:=Lib.hid hR
 clear hl hcl hR
 go_enter Tryz.func160,Tryz.ntmps160
 go_wp2_with fail
 go_loop [8] (fun i=>∃ k:Nat,k≤n∧i=.int .i64 k∧∀ (j:Nat) (y:Int),j < k→l[j]?=some y→p y=false) (fun i=>n - (intOf i).toNat)
 case atStart=>exact ⟨0,Nat.zero_le _,rfl,fun j y h=>by omega⟩
 case round=>
  obtain ⟨k,hk,rfl,hq⟩:=hrel
  have HQ:=Lib.hid hq
  clear hq
  rcases Nat.lt_or_ge k n with hlt | hge
  ·obtain ⟨ad,x,rfl,hx,xc,f1,f2⟩:=HL.out.at k hlt
   have HX:=Lib.hid hx
   have hkn:(k:Int) < (n:Int):=by omega
   have hk0:(0:Int)≤(k:Int):=by omega
   clear hx
   cases hp:p x with
   | true=>
    have h:=HCL.out x
    rw [hp] at h
    have HP:=Lib.hid h
    have HPE:=Lib.hid hp
    clear h hp
    go_wp2_with fail
    refine HP.out.mono ?_
    rintro e w' ⟨rfl,rfl⟩
    go_wp2_with fail
    go_ret
    refine ⟨?_,rfl⟩
    rw [HR.out,idxI_some HX.out HPE.out HQ.out]
    rfl
   | false=>
    have h:=HCL.out x
    rw [hp] at h
    have HP:=Lib.hid h
    have HPE:=Lib.hid hp
    clear h hp
    go_wp2_with fail
    refine HP.out.mono ?_
    rintro e w' ⟨rfl,rfl⟩
    go_wp2_with fail
    go_round
    case rel=>exact ⟨k+1,by omega,by go_num,fun j y hj hy=>by
     rcases Nat.lt_or_ge j k with h | h
     ·exact HQ.out j y h hy
     ·obtain rfl:j=k:=by omega
      have h1:=HX.out
      rw [hy] at h1
      cases h1
      exact HPE.out⟩
    case measure=>simp [intOf];omega
  ·obtain rfl:n=k:=by omega
   go_wp2_with fail
   go_ret
   refine ⟨?_,rfl⟩
   rw [HR.out,idxI_none fun j y hy=>HQ.out j y (by have:=(List.getElem?_eq_some_iff.1 hy).1;rw [HLN.out] at this;exact this) hy]
   rfl
theorem contFunc_any (f:Nat) (cap:Array Value) (eg:∀ args w,(callFunc f args).run Tryz.prog w=.ok (.enter f args) w) (w:World) (A:Option Addr) (n c:Nat) (l:List Int) (hl:IntsIn w A n l) (p:Int→Bool)
  (hcl:∀ x,Calls Tryz.prog f (#[.int .i64 x]++cap) w fun e w'=>e=.returned (.bool (p x))∧w'=w):
  Calls Tryz.prog 118 #[.slice A n c,.func (.func f) #[] cap] w fun e w'=>e=.returned (.bool (l.any p))∧w'=w:=by
 have h:=idxFunc_any f cap eg w A n c l hl p hcl
 have hd:=idxI_any p l
 obtain ⟨I,hI⟩:∃ I,I=idxI p l:=⟨_,rfl⟩
 rw [← hI] at h hd
 rw [← hd]
 have H:=Lib.hid h
 clear hl hcl h hd hI
 go_enter Tryz.func118,Tryz.ntmps118
 go_wp2_with fail
 refine H.out.mono ?_
 rintro e w' ⟨rfl,rfl⟩
 go_wp2_with fail
 go_ret
 refine ⟨?_,rfl⟩
 simp only [Ending.returned.injEq,Value.bool.injEq]
 first | rfl | (congr 1)
def WalkOut (L:List Nm) (l:List Int) (I:Nat→World→Prop) (e:Ending) (w':World):Prop:=
 e=.returned (.int .i64 (walkE L l))∧∃ k,I k w'∧(walkE L l=0→k=l.length)
theorem walk_any (f:Nat) (cap:Array Value) (eg:∀ args w,(callFunc f args).run Tryz.prog w=.ok (.enter f args) w) (w0 w:World) (b:Nat) (V:Voc) (hC:Coder w0 b V) (hS:∀ x∈V.tok,x.length≤4096) (C:Option Addr) (p c:Nat) (l:List Int) (hl:IntsIn w0 C p l)
  (hb:Below w0.heap.size w0 w) (I:Nat→World→Prop) (hI0:I 0 (w.alloc (.cells #[at0 b] 35))) (hIX:∀ k u,I k u→Blk u w.heap.size 35 #[at0 b]) (hIB:∀ k u,I k u→Below w0.heap.size w0 u)
  (hcl:∀ (k i:Nat) (u:World) (A:Option Addr) (c:Nat) (x:Nm),I k u→l[k]?=some (i:Int)→V.tok[i]?=some x→BytesIn u A x.length x→x.length≤c→(textUp V.tok l k).length+x.length≤4096→Calls Tryz.prog f (#[.slice A x.length c,.int .i64 ((textUp V.tok l k).length:Nat)]++cap) u fun e u'=>e=.returned (.tuple #[])∧I (k+1) u'):
  Calls Tryz.prog 64 #[at0 b,.slice C p c,.func (.func f) #[] cap] w (WalkOut V.tok l I):=by
 have hln:=hl.len
 obtain ⟨A,B,ca,cb,bp,D,cs,hCC⟩:=hC
 have hk0:∀ u,Below w0.heap.size w0 u→u.cell? ⟨b,0,none⟩=some (.slice A V.tok.length ca):=fun u hb=>by rw [(hCC.blk.below hb hCC.blk.lt).cell];exact hCC.c0
 have hb1:Below w.heap.size w (w.alloc (.cells #[at0 b] 35)):=(Below.refl _ w).alloc (Nat.le_refl _) _
 have hbox:(w.alloc (.cells #[at0 b] 35)).cell? ⟨w.heap.size,0,none⟩=some (at0 b):=by
  rw [(Blk.new w 35 #[at0 b]).cell 0]
  rfl
 have hb01:=below_then hb hb1 hb.size
 have hcont:=contFunc_any 119 #[.pointer (some ⟨w.heap.size,0,none⟩)] (enters_of Tryz.func119 (by kernel_rfl) rfl) (w.alloc (.cells #[at0 b] 35)) C p c l (hl.below hb01) (fun i=>decide (i < 0∨(V.tok.length:Int)≤i)) (fun x=>walk1_any _ w.heap.size b A V.tok.length ca x hbox (hk0 _ hb01))
 have hany:(l.any fun i=>decide (i < 0∨(V.tok.length:Int)≤i))=!decide (∀ i∈l,tokIn V.tok i):=by
  by_cases h:∀ i∈l,tokIn V.tok i
  ·rw [decide_eq_true h]
   rw [Bool.not_true,List.any_eq_false]
   intro i hi
   have:=h i hi
   unfold tokIn at this
   simp
   omega
  ·rw [decide_eq_false h,Bool.not_false,List.any_eq_true]
   simp only [Classical.not_forall] at h
   obtain ⟨i,hi,hn⟩:=h
   refine ⟨i,hi,decide_eq_true ?_⟩
   unfold tokIn at hn
   omega
 rw [hany] at hcont
 have hp63:p≤9223372036854775807:=hl.1
 have HL:=Lib.hid hl
 have HLN:=Lib.hid hln
 have HK0:=Lib.hid hk0
 have HTOK:=Lib.hid hCC.tok
 have HS:=Lib.hid hS
 have HI0:=Lib.hid hI0
 have HIX:=Lib.hid hIX
 have HIB:=Lib.hid hIB
 have HCL:=Lib.hid hcl
 by_cases hall:∀ i∈l,tokIn V.tok i
 ·rw [decide_eq_true hall,Bool.not_true] at hcont
  have HALL:=Lib.hid hall
  have HCONT:=Lib.hid hcont
  have hw1:walkE V.tok l=if 4096 < (decT V.tok l).length then 2 else 0:=by unfold walkE;rw [if_pos hall]
  have HW1:=Lib.hid hw1
  clear hl hln hk0 hCC hS hI0 hIX hIB hcl hcont hall hany hb1 hb01 hbox hw1 hb
  unfold at0 at HCONT ⊢
  go_enter Tryz.func64,Tryz.ntmps64
  go_wp2_with fail
  refine HCONT.out.mono ?_
  rintro e w1 ⟨rfl,rfl⟩
  go_wp2_with fail
  go_loopw [7,16] (fun a i wr=>∃ k:Nat,k≤p∧i=.int .i64 (k:Nat)∧a=.int .i64 ((textUp V.tok l k).length:Nat)∧(textUp V.tok l k).length≤4096∧I k wr) (fun _ i _=>p - (intOf i).toNat)
  case atStart=>exact ⟨0,Nat.zero_le _,rfl,rfl,Nat.zero_le _,HI0.out⟩
  case round=>
   obtain ⟨k,hk,rfl,rfl,htk,hI⟩:=hrel
   rcases Nat.lt_or_ge k p with hlt | hge
   ·have hB:=HIB.out _ _ hI
    obtain ⟨ad,xi,rfl,hx,xc,f1,f2⟩:=(HL.out.below hB).at k hlt
    have htin:=HALL.out xi (List.mem_of_getElem? hx)
    obtain ⟨i,rfl⟩:∃ i:Nat,xi=(i:Int):=⟨xi.toNat,by have:=htin.1;omega⟩
    have hil:i < V.tok.length:=by have:=htin.2;omega
    have hxt:V.tok[i]?=some (V.tok[i]'hil):=List.getElem?_eq_getElem hil
    obtain ⟨x,hxe⟩:∃ x,x=V.tok[i]'hil:=⟨_,rfl⟩
    rw [← hxe] at hxt
    obtain ⟨adt,Bt,ct,e1,tc,hct,hbt⟩:=(HTOK.out.below hB).at_ i x hxt
    subst e1
    have hx4:=HS.out x (List.mem_of_getElem? hxt)
    have htx:=textUp_yes hx hxt
    have hbx:=(HIX.out _ _ hI).cell 0
    simp only [lz0,lz1] at hbx
    unfold at0 at hbx
    have hk0:=HK0.out _ hB
    have hkp:(k:Int) < (p:Int):=by omega
    have hkz:(0:Int)≤(k:Int):=by omega
    have hiz:(0:Int)≤(i:Int):=by omega
    have hiT:(i:Int) < (V.tok.length:Int):=by omega
    obtain ⟨a,ha⟩:∃ a,a=(textUp V.tok l k).length:=⟨_,rfl⟩
    rw [← ha] at htk
    have haz:(a:Int)≤4096:=by omega
    have hxz:(x.length:Int)≤4096:=by omega
    have HA:=Lib.hid ha
    have HI:=Lib.hid hI
    have HX:=Lib.hid hx
    have HXT:=Lib.hid hxt
    have HBT:=Lib.hid hbt
    have HTX:=Lib.hid htx
    rw [← ha]
    clear hB hx hxt hxe htx ha hI hbt htin
    by_cases hov:4096 < a+x.length
    ·have hov1:(4096:Int) - (a:Int) < (x.length:Int):=by omega
     have hfin:walkE V.tok l=2:=by
      rw [HW1.out,if_pos]
      have h1:=textUp_mono V.tok l (a:=k+1) (b:=l.length) (by rw [HLN.out];omega)
      rw [HTX.out,List.length_append,← HA.out] at h1
      unfold decT
      omega
     have HF:=Lib.hid hfin
     clear hfin
     go_wp2_with fail
     go_ret
     rw [WalkOut,HF.out]
     exact ⟨rfl,k,HI.out,fun h=>by omega⟩
    ·have hov1:¬ (4096:Int) - (a:Int) < (x.length:Int):=by omega
     have hcal:=HCL.out k i wr Bt ct x HI.out HX.out HXT.out HBT.out hct (by rw [← HA.out];omega)
     rw [← HA.out] at hcal
     have HCAL:=Lib.hid hcal
     clear hcal
     go_wp2_with fail
     refine HCAL.out.mono ?_
     rintro e w2 ⟨rfl,hI2⟩
     have HI2:=Lib.hid hI2
     clear hI2 hbx hk0 xc tc
     go_wp2_with fail
     go_roundw
     case rel=>exact ⟨k+1,by omega,by go_num,by rw [HTX.out,List.length_append,← HA.out];go_num,by rw [HTX.out,List.length_append,← HA.out];omega,HI2.out⟩
     case measure=>simp [intOf];omega
   ·obtain rfl:p=k:=by omega
    have hfin:walkE V.tok l=0:=by
     rw [HW1.out,if_neg]
     unfold decT
     rw [HLN.out]
     omega
    have HF:=Lib.hid hfin
    have HI:=Lib.hid hI
    clear hfin hI
    go_wp2_with fail
    go_ret
    rw [WalkOut,HF.out]
    exact ⟨rfl,p,HI.out,fun _=>HLN.out.symm⟩
 ·rw [decide_eq_false hall,Bool.not_false] at hcont
  have HCONT:=Lib.hid hcont
  have hw1:walkE V.tok l=1:=by unfold walkE;rw [if_neg hall]
  have HW1:=Lib.hid hw1
  clear hl hln hk0 hCC hS hI0 hIX hIB hcl hcont hall hany hb1 hb01 hbox hw1 hb
  unfold at0 at HCONT ⊢
  go_enter Tryz.func64,Tryz.ntmps64
  go_wp2_with fail
  refine HCONT.out.mono ?_
  rintro e w1 ⟨rfl,rfl⟩
  go_wp2_with fail
  go_ret
  rw [WalkOut,HW1.out]
  exact ⟨rfl,0,HI0.out,fun h=>by omega⟩
end Go.Proofs.YthcjikpabpgpfaaGreat
