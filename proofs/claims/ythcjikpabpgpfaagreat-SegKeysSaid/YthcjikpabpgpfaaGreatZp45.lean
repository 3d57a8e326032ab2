import Derived.Test.YthcjikpabpgpfaaGreatZp0
import Derived.Test.YthcjikpabpgpfaaGreatZp43
import Derived.Test.YthcjikpabpgpfaaGreatZp32
import Derived.Test.YthcjikpabpgpfaaGreatZp11
import Derived.Test.YthcjikpabpgpfaaGreatZp17
import Derived.Test.YthcjikpabpgpfaaGreatZp31
import Derived.Test.YthcjikpabpgpfaaGreatZp8
set_option linter.unusedSimpArgs false
set_option maxHeartbeats 16000000
set_option maxRecDepth 100000
namespace Go.Proofs.YthcjikpabpgpfaaGreat
open Go.RowKit Go.Maps Go.WideMaps Go.Shelf
def StartsAt (w0:World) (b:Nat) (L:List Nm) (l:List Int) (k:Nat) (u:World):Prop:=
 Below w0.heap.size w0 u∧Blk u (w0.heap.size+1) 35 #[at0 b]∧∃ v,Blk u w0.heap.size 52 #[v]∧u.ownsRow (w0.heap.size+2) 3 1 v k ((startsUp L l k).map i64V)
theorem starts1_any (w0 u:World) (b:Nat) (L:List Nm) (l:List Int) (k:Nat) (sv:Value) (hI:StartsAt w0 b L l k u) (hk:k≤1099511627776):
  Calls Tryz.prog 65 (#[sv,.int .i64 ((textUp L l k).length:Nat)]++#[at0 w0.heap.size]) u fun e u'=>e=.returned (.tuple #[])∧StartsAt w0 b L l (k+1) u':=by
 obtain ⟨i0,hi,hz0,hz1,hz2⟩:=info_parts intInfo1
 obtain ⟨h1,h2,v,h3,h4⟩:=hI
 obtain ⟨Av,cv,rfl⟩:=own_slice h4
 have htx:=startsUp_succ L l k
 obtain ⟨a,ha⟩:∃ a,a=(textUp L l k).length:=⟨_,rfl⟩
 rw [← ha] at htx ⊢
 have c0:=h3.cell 0
 simp only [lz0,lz1] at c0
 have hba:Below u.heap.size u (u.alloc (.cells #[.int .i64 (a:Nat)] 3)):=(Below.refl _ u).alloc (Nat.le_refl _) _
 have H1:=Lib.hid (below_then h1 hba h1.size)
 have H2:=Lib.hid (h2.below hba h2.lt)
 have H3:=Lib.hid (h3.below hba h3.lt)
 have H4:=Lib.hid (h4.alloc (.cells #[.int .i64 (a:Nat)] 3))
 have HTX:=Lib.hid htx
 have h1s:w0.heap.size+2≤u.heap.size:=h2.lt
 clear h1 h2 h3 h4 htx ha hba
 unfold at0
 go_enter Tryz.func65,Tryz.ntmps65
 go_wp2_with (at_builtin;clear c0;refine wpList_append_own_at _ rfl _ _ 52 rfl (w0.heap.size+2) 3 i0 (.int .i64 0) 1 8 Tryz.underlying52 hi hz0 hz1 hz2 rfl (by decide) _ k _ rfl H4.out ⟨u.heap.size,0,none⟩ 1 1 [.int .i64 (a:Nat)] rfl rfl one_cell_at (by simp [Value.oneCell']) (by unfold maxLen;omega) (by omega) (by simp;omega) ?_;intro v3 w3 hown hgrow hnil hloc;clear hnil;obtain ⟨A3,c3,hv3⟩:=own_slice hown;subst hv3;have B3:=H3.out.grown hgrow (fun e=>own_blk_ne H4.out H3.out (by decide) e.symm);have e3:w3.cell? ⟨w0.heap.size,0,none⟩=some (.slice Av k cv):=(by rw [B3.cell 0];rfl);have z3:=B3.frozen 0;have HO:=Lib.hid hown;have HG:=Lib.hid hgrow;have HB3:=Lib.hid B3;clear hown hgrow hloc B3)
 go_end0
 refine ⟨rfl,?_,?_,.slice A3 (k+1) c3,?_,?_⟩
 ·exact (H1.out.grown HG.out H1.out.size (fun k e=>by have:=(H4.out.lt k e).1;omega)).setCell (Nat.le_refl _) _
 ·exact (H2.out.grown HG.out (fun e=>own_blk_ne H4.out H2.out (by decide) e.symm)).far (by simp) _
 ·have:=HB3.out.set_ 0 (.slice A3 (k+1) c3)
  simpa using this
 ·rw [HTX.out,← map_snoc]
  exact ownsRow_block HO.out fun g e=>heap_setCell_other _ _ _ fun e2=>own_blk_ne HO.out HB3.out (by decide) (by rw [e,e2])
theorem starts_any (w:World) (b:Nat) (V:Voc) (hC:Coder w b V) (hS:∀ x∈V.tok,x.length≤4096) (C:Option Addr) (p c:Nat) (l:List Int) (hl:IntsIn w C p l) (hp:p≤1099511627776):
  Calls Tryz.prog 22 #[at0 b,.slice C p c] w (ListOut w (startsR V.tok l) (walkE V.tok l)):=by
 have hb1:Below w.heap.size w (w.alloc (.cells #[.slice none 0 0] 52)):=(Below.refl _ w).alloc (Nat.le_refl _) _
 have hI0:StartsAt w b V.tok l 0 ((w.alloc (.cells #[.slice none 0 0] 52)).alloc (.cells #[at0 b] 35)):=by
  refine ⟨hb1.alloc (by simp) _,?_,.slice none 0 0,(Blk.new w _ _).alloc _,World.ownsRow_nil _ _ _ _⟩
  have:=Blk.new (w.alloc (.cells #[.slice none 0 0] 52)) 35 #[at0 b]
  simpa using this
 have hw:=walk_any 65 #[at0 w.heap.size] (enters_of Tryz.func65 (by kernel_rfl) rfl) w (w.alloc (.cells #[.slice none 0 0] 52)) b V hC hS C p c l hl hb1 (StartsAt w b V.tok l) hI0 (fun k u h=>by have:=h.2.1;simpa using this) (fun k u h=>h.1) (fun k i u A c x h1 h2 _ _ _ _=>starts1_any w u b V.tok l k _ h1 (by have h5:=(List.getElem?_eq_some_iff.1 h2).1;have h6:=hl.len;omega))
 have hf:=walkE_fits V.tok l
 obtain ⟨R,hR⟩:∃ R,R=startsR V.tok l:=⟨_,rfl⟩
 rw [← hR]
 unfold startsR at hR
 obtain ⟨E,hE⟩:∃ E,E=walkE V.tok l:=⟨_,rfl⟩
 unfold WalkOut at hw
 rw [← hE] at hw hf hR ⊢
 have HRR:=Lib.hid hR
 have HW:=Lib.hid hw
 clear hR hC hS hl hb1 hI0 hw hE
 unfold at0 at HW ⊢
 go_enter Tryz.func22,Tryz.ntmps22
 go_wp2_with fail
 refine HW.out.mono ?_
 rintro e w2 ⟨rfl,k,⟨h1,h2,v,h3,h4⟩,hk⟩
 obtain ⟨Av,cv,rfl⟩:=own_slice h4
 have c0:=h3.cell 0
 simp only [lz0,lz1] at c0
 have H1:=Lib.hid h1
 have H4:=Lib.hid h4
 have HK:=Lib.hid hk
 clear h1 h2 h3 h4 hk
 by_cases he:E=0
 ·obtain rfl:0=E:=he.symm
  obtain rfl:k=l.length:=HK.out rfl
  clear he
  go_wp2_with fail
  go_ret2
  refine ⟨_,rfl,?_,H1.out⟩
  rw [HRR.out,if_pos trivial,startsUp_len]
  exact own_leE H4.out (by omega)
 ·have d1:(E != 0)=true:=by simpa using he
  have HE:=Lib.hid he
  clear he
  go_wp2_with fail
  go_ret2
  refine ⟨_,rfl,?_,H1.out⟩
  rw [HRR.out,if_neg HE.out]
  exact World.ownsRow_nil _ _ _ _
end Go.Proofs.YthcjikpabpgpfaaGreat
namespace Go.Proofs.YthcjikpabpgpfaaGreat
open Go.RowKit Go.Maps Go.WideMaps
theorem totT_take (L:List MDoc) (k:Nat):totT (L.take k)≤totT L:=by
 have h1:totT L=totT (L.take k)+totT (L.drop k):=by rw [← totT_append,List.take_append_drop]
 omega
theorem segM_few {V:Voc} (hV:VOk V) {l:List (Nm×Nm)} (hl:docsR l) {k:Nat} (hk:k≤l.length):totT (segM V l k)≤textN l:=by
 rw [segM_take hV hl k hk]
 exact Nat.le_trans (totT_take _ _) (docsM_tot hV hl)
theorem spGather_any {w:World} {b:Nat} {V:Voc} (hC:Coder w b V) (hO:VOk V) (A:Option Addr) (n c:Nat) (l:List (Nm×Nm)) (hl:DocsIn w A n l) (hR:docsR l) (ht:textN l≤4000):
  Calls Tryz.prog 30 #[.pointer (some ⟨b,0,none⟩),.slice A n c] w fun e w'=>∃ m F,e=.returned (.pointer (some ⟨m,0,none⟩))∧M0 w' F m (docsM V l)∧(∀ i,F i→w.heap.size≤i)∧Below w.heap.size w w':=by
 have HC:=Lib.hid hC
 have HO:=Lib.hid hO
 have HL:=Lib.hid hl
 have HR:=Lib.hid hR
 have HT:Hid (∀ k,k≤n→totT (segM V l k)≤20000):=Lib.hid fun k hk=>by have:=segM_few hO hR (k:=k) (by rw [hl.len];exact hk);omega
 have HW:Hid (∀ k,k≤n→MWF (segM V l k)):=Lib.hid fun k hk=>segM_wf hO l (by rw [hl.len];exact hk)
 have HFIN:Hid (segM V l n=docsM V l):=Lib.hid (by rw [← hl.len];exact segM_all hO hR)
 have hn64:n≤64:=by have:=hR.1;rw [hl.len] at this;exact this
 have hml:=hO.ml
 have hs16:=Lib.hid hO.s16
 clear hC hO hl hR ht
 go_enter Tryz.func30,Tryz.ntmps30
 go_wp2_with fail
 refine (m0New_any w).mono ?_
 rintro e w1 ⟨m,F,rfl,hb,hm,hf⟩
 have HM:=Lib.hid hm
 have HB:=Lib.hid hb
 have HF:=Lib.hid hf
 clear hm hb hf
 go_wp2_with fail
 go_loopw [15] (fun i wr=>∃ (k:Nat) (G:Nat→Prop),k≤n∧i=.int .i64 k∧M0 wr G m (segM V l k)∧(∀ i,G i→w.heap.size≤i)∧Below w.heap.size w wr) (fun i _=>n - (intOf i).toNat)
 case atStart=>exact ⟨0,F,by omega,rfl,HM.out,HF.out,HB.out⟩
 case round=>
  clear HM HB HF
  obtain ⟨k,G,hk,rfl,hm,hg,hb⟩:=hrel
  have HM:=Lib.hid hm
  have HG:=Lib.hid hg
  have HB:=Lib.hid hb
  have hsz:=hb.size
  clear hm hg hb
  rcases Nat.lt_or_ge k n with hlt | hge
  ·have d2:decide ((k:Int) < (n:Int))=true:=by simpa using hlt
   have p0:(0:Int)≤(k:Int):=by omega
   have p1:(k:Int) < (n:Int):=by omega
   obtain ⟨pa,p,rfl,hp,a0,a1,-,-⟩:=(HL.out.below HB.out).at k hlt
   have hdk:=HR.out.2.1 p (List.mem_of_getElem? hp)
   obtain ⟨pk,pt⟩:=p
   simp only at a0 a1
   have h4:pt.length≤4096:=hdk.2.2
   obtain ⟨W1,hW1⟩:∃ z,z=wr.alloc (.cells #[.string ⟨pk.toArray⟩,.string ⟨pt.toArray⟩] 49):=⟨_,rfl⟩
   have hbl:Blk W1 wr.heap.size 49 #[.string ⟨pk.toArray⟩,.string ⟨pt.toArray⟩]:=by rw [hW1];exact Blk.new _ _ _
   have hb1:Below wr.heap.size wr W1:=by rw [hW1];exact (Below.refl _ wr).alloc (Nat.le_refl _) _
   have c1:=hbl.cell 1
   simp only [lz0,lz1,lz2] at c1
   obtain ⟨cc,u1,hrun,hbc,hbi,hcc,-⟩:=bytes_of W1 pt (by omega)
   have HP:=Lib.hid hp
   have HBW1:=Lib.hid (below_then HB.out hb1 hsz)
   have hWz:W1.heap.size=wr.heap.size+1:=by rw [hW1];simp
   rw [hWz] at hbi
   have HBI:=Lib.hid hbi
   have HB1:=Lib.hid (below_then (below_then HB.out hb1 hsz) hbc HBW1.out.size)
   have hbu:Below wr.heap.size wr u1:=below_then hb1 hbc hb1.size
   have HMU:=Lib.hid (HM.out.keep (w':=u1) (fun i hi=>hbu.block i (HM.out.2.1 i hi)) hbu.size)
   have HCU:=Lib.hid ((HC.out.below HB.out).below hbu)
   have HGW:Hid (∀ i,G i→i < wr.heap.size):=Lib.hid HM.out.2.1
   obtain ⟨wg,hwg⟩:∃ g,g=wr.heap.size:=⟨_,rfl⟩
   have hsu:=hbu.size
   rw [hWz,hW1] at hrun
   rw [hW1] at c1
   clear hp hbi hbl hb1 hbc hbu hcc hW1 HM hdk
   go_wp2_with fail
   refine (encode_any u1 b V HCU.out (by omega) (some ⟨wr.heap.size+1,0,none⟩) pt.length cc pt HBI.out).mono ?_
   rintro e u2 ⟨vt,rfl,ho,hb2⟩
   obtain ⟨tl,htl⟩:∃ tl,tl=(encR V.mer pt).length:=⟨_,rfl⟩
   have htm:tl≤4096:=by rw [htl];exact encR_len _ _
   rw [← htl] at ho
   obtain ⟨At,ct,rfl,hct⟩:=own_cap ho
   have hit:IntsIn u2 At tl (encR V.mer pt):=IntsIn.own ho (by unfold maxLen;omega) (fun x hx=>by have:=(docM_fit HO.out k (pk,pt)).1 x hx;omega)
   have HIT:=Lib.hid hit
   have HAT:Hid (∀ ad,At=some ad→0 < tl→¬ G ad.block):=Lib.hid (fun ad e _ hg=>by have h1:=(ho.lt ad.block (by rw [e];rfl)).1;have h2:=HGW.out _ hg;omega)
   have HM2:=Lib.hid (HMU.out.keep (w':=u2) (fun i hi=>hb2.block i (HMU.out.2.1 i hi)) hb2.size)
   have HB2:=Lib.hid (below_then HB1.out hb2 HB1.out.size)
   have HC2:=Lib.hid (HCU.out.below hb2)
   have hs12:=hb2.size
   clear ho hb2 hit htl HMU HB1 HCU HBI c1 hrun
   go_wp2_with fail
   refine (starts_any u2 b V HC2.out hs16.out At tl ct (encR V.mer pt) HIT.out (by omega)).mono ?_
   rintro e u3 ⟨vs,rfl,ho,hb3⟩
   obtain ⟨sl,hsl⟩:∃ sl,sl=(startsR V.tok (encR V.mer pt)).length:=⟨_,rfl⟩
   have hsm:sl≤4096:=by have:=startsR_len (L:=V.tok) (l:=encR V.mer pt);have:=HIT.out.len;omega
   rw [← hsl] at ho
   obtain ⟨As,cs,rfl,hcs⟩:=own_cap ho
   have hsi:IntsIn u3 As sl (startsR V.tok (encR V.mer pt)):=IntsIn.own ho (by unfold maxLen;omega) (fun x hx=>by have:=startsR_fit _ _ x hx;omega)
   have HIS:=Lib.hid hsi
   have HAS:Hid (∀ ad,As=some ad→0 < sl→¬ G ad.block):=Lib.hid (fun ad e _ hg=>by have h1:=(ho.lt ad.block (by rw [e];rfl)).1;have h2:=HGW.out _ hg;omega)
   have HIT3:=Lib.hid (HIT.out.below hb3)
   have HM3:=Lib.hid (HM2.out.keep (w':=u3) (fun i hi=>hb3.block i (HM2.out.2.1 i hi)) hb3.size)
   have HB3:=Lib.hid (below_then HB2.out hb3 HB2.out.size)
   have hs23:=hb3.size
   clear ho hb3 hsi hsl HIT HM2 HB2 HC2
   go_wp2_with fail
   refine (m0Add_any HM3.out (HW.out k hk) (HT.out k hk) (docM V k (pk,pt)) At As tl sl ct cs HIT3.out HIS.out HAT.out HAS.out ⟨by show (-9223372036854775808:Int)≤(k:Int);omega,by show (k:Int)≤9223372036854775807;omega⟩).mono ?_
   rintro e u4 ⟨rfl,G4,hm4,hk4,hg4⟩
   have HM4:Hid (M0 u4 G4 m (segM V l (k+1))):=Lib.hid (by rw [segM_succ HP.out];exact hm4)
   have HB4:Hid (Below w.heap.size w u4):=Lib.hid (HB3.out.trans (hk4.toBelow HB3.out.size HG.out))
   have HG4:Hid (∀ i,G4 i→w.heap.size≤i):=Lib.hid (fun i hi=>by
    have:=HB3.out.size
    rcases hg4 i hi with h | h
    ·exact HG.out i h
    ·omega)
   clear hm4 hk4 hg4
   go_wp2
   exact ⟨⟨k+1,G4,by omega,by go_num,HM4.out,HG4.out,HB4.out⟩,by simp [intOf];omega⟩
  ·obtain rfl:k=n:=by omega
   have d2:decide ((k:Int) < (k:Int))=false:=by simp
   have hm:=HM.out
   rw [HFIN.out] at hm
   have HMF:=Lib.hid hm
   clear hm HM
   go_wp2
   go_ret
   exact ⟨m,G,rfl,HMF.out,HG.out,HB.out⟩
end Go.Proofs.YthcjikpabpgpfaaGreat
