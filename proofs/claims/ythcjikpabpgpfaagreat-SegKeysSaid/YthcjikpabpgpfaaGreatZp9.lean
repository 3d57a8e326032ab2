import Derived.Test.YthcjikpabpgpfaaGreatZp0
import Derived.Test.YthcjikpabpgpfaaGreatZp6
import Derived.Lib.Strings
import Derived.Lib.UnsafeStr
import Derived.Lib.BufferRead
import Derived.Test.YthcjikpabpgpfaaGreatZp7
import Derived.Test.YthcjikpabpgpfaaGreatZp1
import Derived.Deep.QuietTactic
import Derived.BigQuiet
import Derived.Lib.SmallJoins
import Derived.Lib.AppendZerosOnto
set_option linter.unusedSimpArgs false
set_option maxHeartbeats 16000000
set_option maxRecDepth 100000
namespace Go.Proofs.YthcjikpabpgpfaaGreat
open Go.RowKit Go.Maps Go.WideMaps Go.ChangeShapes Go.WideShapes Go.ChangeAt Go.Deep
theorem rowInfo:(Tryz.prog.info? 24).map (fun i=>(i.zero,i.size,i.bytes))=some (some (.slice none 0 0),1,24):=by kernel_rfl
def Holds1 (w:World) (sv:Value) (x:Nm):Prop:=∃ A c,sv=.slice A x.length c∧x.length≤c∧BytesIn w A x.length x
theorem Holds1.below {w w':World} {sv:Value} {x:Nm} (h:Holds1 w sv x) (hb:Below w.heap.size w w'):Holds1 w' sv x:=by
 obtain ⟨A,c,h1,h2,h3⟩:=h
 exact ⟨A,c,h1,h2,h3.below hb⟩
theorem Holds1.own {w:World} {base:Nat} {v:Value} {x:Nm} (h:w.ownsRow base 5 1 v x.length (x.map byteV)) (h63:x.length≤maxLen):Holds1 w v x:=by
 obtain ⟨A,c,h1,h2⟩:=own_cap h
 subst h1
 exact ⟨A,c,rfl,h2,BytesIn.own h h63⟩
structure RowsSee (w:World) (A:Option Addr) (n:Nat) (L:List Nm):Prop where
 len:L.length=n
 fit:n≤maxLen
 at_:∀ (i:Nat) (x:Nm),L[i]?=some x→∃ ad B c,A=some ad∧w.cell? (ad.add i)=some (.slice B x.length c)∧x.length≤c∧BytesIn w B x.length x
theorem RowsSee.below {w w':World} {A:Option Addr} {n:Nat} {L:List Nm} (h:RowsSee w A n L) (hb:Below w.heap.size w w'):RowsSee w' A n L:=
 ⟨h.len,h.fit,fun i x hx=>by
  obtain ⟨ad,B,c,h1,h2,h3,h4⟩:=h.at_ i x hx
  exact ⟨ad,B,c,h1,(hb.cell (World.block_lt_of_cell? w _ h2)).trans h2,h3,h4.below hb⟩⟩
theorem RowsSee.drewN {w:World} {A:Option Addr} {n:Nat} {L:List Nm} (h:RowsSee w A n L) (q:Nat):RowsSee (w.drewN q) A n L:=h.below (below_drewN (Below.refl _ _) q)
def RowsAt (w:World) (base:Nat) (v:Value) (L:List Nm):Prop:=
 ∃ svs:List Value,w.ownsRow base 24 1 v L.length svs∧∀ (i:Nat) (sv:Value) (x:Nm),svs[i]?=some sv→L[i]?=some x→∃ A c,sv=.slice A x.length c∧x.length≤c∧BytesIn w A x.length x∧∀ ad,A=some ad→0 < x.length→v.ownBlock≠some ad.block
theorem RowsAt.nil (w:World) (base:Nat):RowsAt w base (.slice none 0 0) []:=⟨[],⟨rfl,.inl ⟨rfl,rfl⟩⟩,fun i sv x h _=>by simp at h⟩
theorem RowsAt.see {w:World} {base:Nat} {A:Option Addr} {n c:Nat} {L:List Nm} (h:RowsAt w base (.slice A n c) L) (h63:L.length≤maxLen):RowsSee w A L.length L∧n=L.length∧n≤c:=by
 obtain ⟨svs,h1,h2⟩:=h
 obtain ⟨A',c',e1,e2⟩:=own_cap h1
 injection e1 with ea en ec
 subst ea en ec
 refine ⟨⟨rfl,h63,fun i x hx=>?_⟩,rfl,e2⟩
 have hl:svs.length=L.length:=by have:=h1.1;simpa using this
 have hi:=(List.getElem?_eq_some_iff.1 hx).1
 have hs:svs[i]?=some (svs[i]'(by omega)):=List.getElem?_eq_getElem _
 obtain ⟨B,cb,h3,h4,h5,_⟩:=h2 i _ x hs hx
 have hsrc:=src_of_own h1
 cases hA:A with
 | none=>have:=hsrc.nil hA;omega
 | some ad=>
  refine ⟨ad,B,cb,rfl,?_,h4,h5⟩
  have:=hsrc.cells ad hA i _ hs
  rw [h3] at this
  exact this
theorem one_row_src (w:World) (sv:Value) (h:sv.oneCell'=true):Src (w.alloc (.cells #[sv] 24)) (some ⟨w.heap.size,0,none⟩) 1 [sv]:=by
 have _:=h
 refine ⟨rfl,fun ad e j u hu=>?_,fun e=>by cases e⟩
 cases e
 have hj:j=0:=by
  have:=(List.getElem?_eq_some_iff.1 hu).1
  simp at this
  exact this
 subst hj
 rw [show (⟨w.heap.size,0,none⟩:Addr).add 0=⟨w.heap.size,0,none⟩ by simp [Addr.add],cell_of_row _ w.heap.size 0 _ 24 (0,0) (heap_alloc_new w _)]
 simpa using hu
section
variable {H:Type} {enc:TypeId×Value→H} {w:World}
end
end Go.Proofs.YthcjikpabpgpfaaGreat
namespace Go.Proofs.YthcjikpabpgpfaaGreat
open Go.RowKit Go.Maps Go.WideMaps
theorem str_of {w:World} {A:Option Addr} {n:Nat} {x:Nm} (h:BytesIn w A n x) (c:Nat):(convert 24 9 (.slice A n c)).run Tryz.prog w=.ok (.string ⟨x.toArray⟩) w:=by
 have hl:x.length=n:=by have:=h.2.1.len;simpa using this
 cases A with
 | none=>
  have h0:=h.2.1.nil rfl
  have hx:x=[]:=List.eq_nil_of_length_eq_zero (by omega)
  subst hx h0
  exact Lib.run_convert_nil_bytes w 24 9 5 c Tryz.underlying24 Tryz.underlying5 Tryz.underlying9
 | some ad=>
  have:=run_convert_bytes_back (P:=Tryz.prog) w 24 9 5 ad c x Tryz.underlying24 Tryz.underlying5 Tryz.underlying9 (fun j hj=>by
   refine h.2.1.cells ad rfl j _ ?_
   rw [List.getElem?_map,List.getElem?_eq_getElem hj]
   simp [byteV])
  rw [hl] at this
  exact this
theorem r5find_any (w:World) (A:Option Addr) (n c:Nat) (L:List Nm) (s:Nm) (ha:RowsSee w A n L):
  Calls Tryz.prog 73 #[.slice A n c,.string ⟨s.toArray⟩] w fun e w'=>e=.returned (.int .i64 (findT L s))∧w'=w:=by
 have HA:=Lib.hid ha
 have HLA:=Lib.hid ha.len
 have hn63:n≤9223372036854775807:=ha.fit
 obtain ⟨R,hR⟩:∃ R,R=findT L s:=⟨_,rfl⟩
 rw [← hR]
 have HR:=Lib.hid hR
 clear ha hR
 go_enter Tryz.func73,Tryz.ntmps73
 go_wp2
 go_loop [5] (fun i=>∃ k:Nat,k≤n∧i=.int .i64 k∧∀ j x,j < k→L[j]?=some x→x≠s) (fun i=>n - (intOf i).toNat)
 case atStart=>exact ⟨0,by omega,rfl,fun j x h=>by omega⟩
 case round=>
  obtain ⟨k,hk,rfl,hno⟩:=hrel
  have HNO:=Lib.hid hno
  clear hno
  rcases Nat.lt_or_ge k n with hlt | hge
  ·have hlt':(k:Int) < (n:Int):=by omega
   obtain ⟨x,hx⟩:∃ x,L[k]?=some x:=⟨_,List.getElem?_eq_getElem (by rw [HLA.out];exact hlt)⟩
   obtain ⟨pa,Ax,cx,rfl,ea,_,ex⟩:=HA.out.at_ k x hx
   have cv:=str_of ex cx
   have HX:=Lib.hid hx
   clear hx ex
   by_cases hxs:x=s
   ·have d1:(x==s)=true:=by simpa using hxs
    have hfin:R=(k:Int):=by rw [HR.out];exact findT_at (by rw [HX.out,hxs]) HNO.out
    have HF:=Lib.hid hfin
    clear hxs hfin
    go_wp2
    go_ret
    exact ⟨by rw [HF.out];rfl,rfl⟩
   ·have d1:(x==s)=false:=by simpa using hxs
    have HXS:=Lib.hid hxs
    clear hxs
    go_wp2
    go_round
    case rel=>
     refine ⟨k+1,by omega,by go_num,fun j y hj hy=>?_⟩
     rcases Nat.lt_or_ge j k with h | h
     ·exact HNO.out j y h hy
     ·obtain rfl:j=k:=by omega
      rw [HX.out] at hy
      cases hy
      exact HXS.out
    case measure=>simp [intOf];omega
  ·obtain rfl:k=n:=by omega
   have hlz:¬ ((k:Int) < (k:Int)):=by omega
   have hfin:R=-1:=by
    rw [HR.out]
    refine findT_none fun x hx=>?_
    obtain ⟨j,hj,rfl⟩:=List.mem_iff_getElem.1 hx
    exact HNO.out j _ (by rw [← HLA.out];exact hj) (List.getElem?_eq_getElem hj)
   have HF:=Lib.hid hfin
   clear hfin
   go_wp2
   go_ret
   exact ⟨by rw [HF.out];rfl,rfl⟩
theorem r5find_is (w:World) (A:Option Addr) (n c:Nat) (L:List Nm) (s:Nm) (ha:RowsSee w A n L) {r:Int} (hr:findT L s=r):
  Calls Tryz.prog 73 #[.slice A n c,.string ⟨s.toArray⟩] w fun e w'=>e=.returned (.int .i64 r)∧w'=w:=by
 have h:=r5find_any w A n c L s ha
 rw [hr] at h
 exact h
structure MgSee (w:World) (A:Option Addr) (n:Nat) (L:List Mg):Prop where
 len:L.length=n
 fit:n≤maxLen
 at_:∀ (i:Nat) (m:Mg),L[i]?=some m→∃ ad,A=some ad∧w.cell? (ad.add (i * 3))=some (.int .i64 m.a)∧w.cell? ⟨(ad.add (i * 3)).block,(ad.add (i * 3)).off+1,none⟩=some (.int .i64 m.b)∧w.cell? ⟨(ad.add (i * 3)).block,(ad.add (i * 3)).off+2,none⟩=some (.int .i64 m.t)
 bound:∀ m∈L,(-9223372036854775808≤m.a∧m.a≤9223372036854775807)∧(-9223372036854775808≤m.b∧m.b≤9223372036854775807)∧(-9223372036854775808≤m.t∧m.t≤9223372036854775807)
theorem MgSee.below {w w':World} {A:Option Addr} {n:Nat} {L:List Mg} (h:MgSee w A n L) (hb:Below w.heap.size w w'):MgSee w' A n L:=
 ⟨h.len,h.fit,fun i m hm=>by
  obtain ⟨ad,h1,h2,h3,h4⟩:=h.at_ i m hm
  exact ⟨ad,h1,(hb.cell (World.block_lt_of_cell? w _ h2)).trans h2,(hb.cell (World.block_lt_of_cell? w _ h3)).trans h3,(hb.cell (World.block_lt_of_cell? w _ h4)).trans h4⟩,h.bound⟩
theorem r5merged_any (w:World) (A:Option Addr) (n c:Nat) (L:List Mg) (ha:MgSee w A n L) (a b:Int):
  Calls Tryz.prog 72 #[.slice A n c,.int .i64 a,.int .i64 b] w fun e w'=>e=.returned (.bool (mergedB L a b))∧w'=w:=by
 have HA:=Lib.hid ha
 have HLA:=Lib.hid ha.len
 have hn63:n≤9223372036854775807:=ha.fit
 obtain ⟨R,hR⟩:∃ R,R=mergedB L a b:=⟨_,rfl⟩
 rw [← hR]
 have HR:=Lib.hid hR
 clear ha hR
 go_enter Tryz.func72,Tryz.ntmps72
 go_wp2
 go_loop [7] (fun i=>∃ k:Nat,k≤n∧i=.int .i64 k∧mergedB (L.take k) a b=false) (fun i=>n - (intOf i).toNat)
 case atStart=>exact ⟨0,by omega,rfl,rfl⟩
 case round=>
  obtain ⟨k,hk,rfl,hno⟩:=hrel
  have HNO:=Lib.hid hno
  clear hno
  rcases Nat.lt_or_ge k n with hlt | hge
  ·have hlt':(k:Int) < (n:Int):=by omega
   obtain ⟨m,hm⟩:∃ m,L[k]?=some m:=⟨_,List.getElem?_eq_getElem (by rw [HLA.out];exact hlt)⟩
   obtain ⟨pa,rfl,ea,eb,-⟩:=HA.out.at_ k m hm
   have hup:=mergedB_take hm a b
   rw [HNO.out,Bool.false_or] at hup
   have HM:=Lib.hid hm
   clear hm
   by_cases h1:m.a=a
   ·have d1:(m.a==a)=true:=by simpa using h1
    by_cases h2:m.b=b
    ·have d2:(m.b==b)=true:=by simpa using h2
     have hfin:R=true:=by
      rw [HR.out]
      unfold mergedB
      rw [List.any_eq_true]
      exact ⟨m,List.mem_of_getElem? HM.out,by rw [d1,d2];rfl⟩
     have HF:=Lib.hid hfin
     clear h1 h2 hfin hup
     go_wp2
     go_ret
     exact ⟨by rw [HF.out];rfl,rfl⟩
    ·have d2:(m.b==b)=false:=by simpa using h2
     rw [d1,d2] at hup
     have HUP:=Lib.hid hup
     clear h1 h2 hup
     go_wp2
     go_round
     case rel=>exact ⟨k+1,by omega,by go_num,HUP.out⟩
     case measure=>simp [intOf];omega
   ·have d1:(m.a==a)=false:=by simpa using h1
    rw [d1,Bool.false_and] at hup
    have HUP:=Lib.hid hup
    clear h1 hup
    go_wp2
    go_round
    case rel=>exact ⟨k+1,by omega,by go_num,HUP.out⟩
    case measure=>simp [intOf];omega
  ·obtain rfl:k=n:=by omega
   have hlz:¬ ((k:Int) < (k:Int)):=by omega
   have hfin:R=false:=by
    rw [HR.out,← HNO.out,List.take_of_length_le (by rw [HLA.out];exact Nat.le_refl _)]
   have HF:=Lib.hid hfin
   clear hfin
   go_wp2
   go_ret
   exact ⟨by rw [HF.out];rfl,rfl⟩
theorem r5merged_is (w:World) (A:Option Addr) (n c:Nat) (L:List Mg) (ha:MgSee w A n L) (a b:Int) {r:Bool} (hr:mergedB L a b=r):
  Calls Tryz.prog 72 #[.slice A n c,.int .i64 a,.int .i64 b] w fun e w'=>e=.returned (.bool r)∧w'=w:=by
 have h:=r5merged_any w A n c L ha a b
 rw [hr] at h
 exact h
theorem mergeInfo:(Tryz.prog.info? 88).map (fun i=>(i.zero,i.size,i.bytes))=some (some (.agg #[.int .i64 0,.int .i64 0,.int .i64 0]),3,24):=by kernel_rfl
end Go.Proofs.YthcjikpabpgpfaaGreat
namespace Go.Proofs.YthcjikpabpgpfaaGreat
open Go.RowKit Go.Maps Go.WideMaps Go.ChangeShapes Go.WideShapes Go.ChangeAt Go.Deep
theorem RowsSee.upto {w:World} {A:Option Addr} {n:Nat} {L:List Nm} (h:RowsSee w A n L) (p:Nat) (hp:p≤n):RowsSee w A p (L.take p):=
 ⟨by rw [List.length_take,h.len];omega,Nat.le_trans hp h.fit,fun i x hx=>by
  rw [List.getElem?_take] at hx
  split at hx
  ·exact h.at_ i x hx
  ·cases hx⟩
theorem rows_to (w:World) (A:Option Addr) (n c p:Nat) (h:p≤c):(Instr.slice 27 (.slice A n c) none (some (.int .i64 p)) none).run Tryz.prog w=.ok (.slice A p c) w:=by
 obtain ⟨i0,hi,hz0,hz1,hz2⟩:=info_parts rowInfo
 rw [run_slice_h (P:=Tryz.prog) (w:=w) 27 A n c Tryz.underlying27 .i64 p (by omega) (by omega)]
 have he:Tryz.prog.elem 27=24:=by kernel_rfl
 rw [he]
 have hs:(sizeOf 24).run Tryz.prog w=Result.ok i0.size w:=by
  rw [run_sizeOf w hi]
  unfold Program.cellsOf
  rw [hi]
  rfl
 rw [hs]
 simp [Result.andThen,sliced,Addr.add]
section
variable {H:Type} {enc:TypeId×Value→H} {w:World}
end
end Go.Proofs.YthcjikpabpgpfaaGreat
namespace Go.Proofs.YthcjikpabpgpfaaGreat
open Go.RowKit Go.Maps Go.WideMaps
def RowsG (w:World) (base:Nat) (v:Value) (L:List Nm):Prop:=
 ∃ svs:List Value,w.ownsRow base 24 1 v L.length svs∧∀ (i:Nat) (sv:Value) (x:Nm),svs[i]?=some sv→L[i]?=some x→∃ A c,sv=.slice A x.length c∧x.length≤c∧BytesIn w A x.length x∧∀ ad,A=some ad→0 < x.length→base≤ad.block∧v.ownBlock≠some ad.block
theorem RowsG.nil (w:World) (base:Nat):RowsG w base (.slice none 0 0) []:=⟨[],⟨rfl,.inl ⟨rfl,rfl⟩⟩,fun i sv x h _=>by simp at h⟩
theorem RowsG.rows {w:World} {base b:Nat} {v:Value} {L:List Nm} (h:RowsG w base v L) (hb:b≤base):RowsAt w b v L:=by
 obtain ⟨svs,h1,h2⟩:=h
 refine ⟨svs,Go.Joins.ownsRow_le h1 hb,fun i sv x e1 e2=>?_⟩
 obtain ⟨A,c,h3,h4,h5,h6⟩:=h2 i sv x e1 e2
 exact ⟨A,c,h3,h4,h5,fun ad e h0=>(h6 ad e h0).2⟩
theorem RowsG.keep {w w':World} {base:Nat} {v:Value} {L:List Nm} (h:RowsG w base v L) (hb:∀ i,base≤i→i < w.heap.size→w'.heap[i]?=w.heap[i]?) (hs:w.heap.size≤w'.heap.size):RowsG w' base v L:=by
 obtain ⟨svs,h1,h2⟩:=h
 refine ⟨svs,ownsRow_block h1 fun g hg=>hb g (h1.lt g hg).1 (h1.lt g hg).2,fun i sv x e1 e2=>?_⟩
 obtain ⟨A,c,h3,h4,h5,h6⟩:=h2 i sv x e1 e2
 exact ⟨A,c,h3,h4,⟨h5.1,h5.2.1.keep fun ad e hn=>hb _ (h6 ad e hn).1 (h5.2.2 ad e hn),fun ad e hn=>Nat.lt_of_lt_of_le (h5.2.2 ad e hn) hs⟩,h6⟩
theorem RowsG.below {w w':World} {base:Nat} {v:Value} {L:List Nm} (h:RowsG w base v L) (hb:Below w.heap.size w w'):RowsG w' base v L:=h.keep (fun i _ hi=>hb.block i hi) hb.size
theorem RowsG.push {w w':World} {base:Nat} {v v' sv:Value} {L:List Nm} {x:Nm} {svs:List Value}
  (h2:∀ (i:Nat) (sv:Value) (x:Nm),svs[i]?=some sv→L[i]?=some x→∃ A c,sv=.slice A x.length c∧x.length≤c∧BytesIn w A x.length x∧∀ ad,A=some ad→0 < x.length→base≤ad.block∧v.ownBlock≠some ad.block)
  (hl:svs.length=L.length) (hs:Holds1 w sv x) (hap:∀ A c ad,sv=.slice A x.length c→A=some ad→0 < x.length→base≤ad.block∧v.ownBlock≠some ad.block)
  (ho:w'.ownsRow base 24 1 v' (L.length+1) (svs++[sv])) (hg:w.grownBy w' v.ownBlock) (hloc:v'.ownBlock=v.ownBlock∨∃ g,v'.ownBlock=some g∧w.heap.size≤g):RowsG w' base v' (L++[x]):=by
 have keep:∀ {A:Option Addr} {y:Nm},BytesIn w A y.length y→(∀ ad,A=some ad→0 < y.length→base≤ad.block∧v.ownBlock≠some ad.block)→BytesIn w' A y.length y∧∀ ad,A=some ad→0 < y.length→base≤ad.block∧v'.ownBlock≠some ad.block:=by
  intro A y hb hn
  refine ⟨⟨hb.1,hb.2.1.keep fun ad e h0=>hg.block _ (hb.2.2 ad e h0) (fun e2=>(hn ad e h0).2 e2.symm),fun ad e h0=>Nat.lt_of_lt_of_le (hb.2.2 ad e h0) hg.size⟩,fun ad e h0=>⟨(hn ad e h0).1,?_⟩⟩
  rcases hloc with h | ⟨g,h,hge⟩
  ·rw [h];exact (hn ad e h0).2
  ·rw [h]
   intro e2
   have h3:=hb.2.2 ad e h0
   have h4:g=ad.block:=Option.some.inj e2
   omega
 refine ⟨svs++[sv],by simpa using ho,fun i sv' y e1 e2=>?_⟩
 rcases Nat.lt_or_ge i L.length with hi | hi
 ·rw [List.getElem?_append_left (by omega)] at e1 e2
  obtain ⟨A,c,h3,h4,h5,h6⟩:=h2 i sv' y e1 e2
  obtain ⟨k1,k2⟩:=keep h5 h6
  exact ⟨A,c,h3,h4,k1,k2⟩
 ·have hlt:=(List.getElem?_eq_some_iff.1 e2).1
  simp at hlt
  obtain rfl:i=L.length:=by omega
  rw [List.getElem?_append_right (by omega)] at e1 e2
  simp [hl] at e1 e2
  subst e1 e2
  obtain ⟨A,c,h3,h4,h5⟩:=hs
  obtain ⟨k1,k2⟩:=keep h5 fun ad e h0=>hap A c ad h3 e h0
  exact ⟨A,c,h3,h4,k1,k2⟩
def lenUp (L:List Nm) (k:Nat):Nat:=(L.take k).flatten.length
theorem lenUp_le (L:List Nm) (k:Nat):lenUp L k≤L.flatten.length:=by
 unfold lenUp
 conv=>rhs;rw [← List.take_append_drop k L,List.flatten_append,List.length_append]
 omega
theorem flat_snoc {L:List Nm} {k:Nat} {x:Nm} (h:L[k]?=some x):(L.take (k+1)).flatten=(L.take k).flatten++x:=by
 rw [List.take_add_one,h,Option.toList_some,List.flatten_append]
 simp
theorem lenUp_snoc {L:List Nm} {k:Nat} {x:Nm} (h:L[k]?=some x):lenUp L (k+1)=lenUp L k+x.length:=by
 unfold lenUp
 rw [flat_snoc h,List.length_append]
theorem kGrow_any (w:World) (n:Nat) (h0:0 < n) (hn:n≤1099511627776):
  Calls Tryz.prog 79 #[.slice none 0 0,.int .i64 n] w fun e w'=>∃ c,e=.returned (.slice (some ⟨w.heap.size,0,none⟩) 0 c)∧w'.ownsRow w.heap.size 5 1 (.slice (some ⟨w.heap.size,0,none⟩) 0 c) 0 []∧Below w.heap.size w w':=by
 obtain ⟨i0,hi,hz0,hz1,hz2⟩:=info_parts byteInfo
 have hG:=grownCap_le_maxLen w n 0 5 (by unfold maxLen;omega)
 have hGn:n≤grownCap w n 0 5:=grownCap_ge w _ _ _
 have hfit:Builtin.nextslicecap n 0 * i0.bytes≤281474976710656:=growslice_fits (by omega) (by rw [hz2];omega)
 have hrz:∀ ty,(Builtin.append_ #[24,3] ty #[.slice none 0 0,.int .i64 (n:Int)]).run Tryz.prog w=
   .ok (.slice (some ⟨w.heap.size,0,none⟩) n (grownCap w n 0 5)) (w.drew.alloc (.cells (#[]++Builtin.zeroCells (Value.int .u8 0).cells n++Builtin.zeroCells (Value.int .u8 0).cells (grownCap w n 0 5 - n)) 5)):=fun ty=>by
  have h:=Lib.run_append_grow_zeros w 24 3 ty 5 i0 (.int .u8 0) .i64 .i64 Tryz.underlying24 Tryz.underlying3 hi hz0 none 0 0 [] (run_firstCells_none w.drew i0.size 0 0 0) n h0 (by rw [hz1];omega) (by omega) (by omega) (by rw [hz2];omega) (by simpa using hfit)
  simpa using h
 obtain ⟨G,hGe⟩:∃ G,G=grownCap w n 0 5:=⟨_,rfl⟩
 rw [← hGe] at hG hGn hrz
 have hown:=World.ownsRow_made (base:=w.heap.size) (e:=5) (size:=1) w.drew (#[]++Builtin.zeroCells (Value.int .u8 0).cells n++Builtin.zeroCells (Value.int .u8 0).cells (G - n)) G (Nat.le_refl _) hG (by
  simp only [Array.size_append,size_zeroCells]
  have:(Value.int .u8 0).cells.size=1:=rfl
  rw [this]
  simp
  omega)
 have hbel:Below w.heap.size w (w.drew.alloc (.cells (#[]++Builtin.zeroCells (Value.int .u8 0).cells n++Builtin.zeroCells (Value.int .u8 0).cells (G - n)) 5)):=(Below.refl _ w).drew.alloc (Nat.le_refl _) _
 obtain ⟨W2,hW2⟩:∃ W2,W2=w.drew.alloc (.cells (#[]++Builtin.zeroCells (Value.int .u8 0).cells n++Builtin.zeroCells (Value.int .u8 0).cells (G - n)) 5):=⟨_,rfl⟩
 rw [← hW2] at hrz hown hbel
 have HO:=Lib.hid hown
 have HB:=Lib.hid hbel
 have hs0:∀ w:World,(Instr.slice 24 (.slice none 0 0) none (some (.int .i64 0)) none).run Tryz.prog w=.ok (.slice none 0 0) w:=fun w=>by
  have:=slice_to w none 0 0 0 (Nat.le_refl _)
  simpa using this
 have hs1:∀ w1:World,(Instr.slice 24 (.slice (some ⟨w.heap.size,0,none⟩) n G) none (some (.int .i64 0)) none).run Tryz.prog w1=.ok (.slice (some ⟨w.heap.size,0,none⟩) 0 G) w1:=fun w1=>by
  have:=slice_to w1 (some ⟨w.heap.size,0,none⟩) n G 0 (Nat.zero_le _)
  simpa using this
 have p1:(0:Int) < (n:Int):=by omega
 have p2:¬ (n:Int) < 0:=by omega
 have p3:(n:Int)≤1099511627776:=by omega
 clear hG hGn hfit hGe hown hbel hW2 hi hz0 hz1 hz2
 go_enter Tryz.func79,Tryz.ntmps79
 go_wp2_with (at_builtin;refine Lib.wpList_append_run _ rfl _ _ _ _ rfl _ _ rfl rfl _ _ (hrz _) ?_)
 go_ret
 exact ⟨G,rfl,HO.out,HB.out⟩
theorem kConcat_any (w:World) (A:Option Addr) (k c:Nat) (L:List Nm) (h:RowsSee w A k L) (h0:0 < L.flatten.length) (hn:L.flatten.length≤1099511627776) (hk:k≤1099511627776):
  Calls Tryz.prog 34 #[.slice A k c] w fun e w'=>∃ v,e=.returned v∧w'.ownsRow w.heap.size 5 1 v L.flatten.length (L.flatten.map byteV)∧Below w.heap.size w w':=by
 obtain ⟨i0,hi,hz0,hz1,hz2⟩:=info_parts byteInfo
 have HL:=Lib.hid h
 have HLEN:=Lib.hid h.len
 obtain ⟨Z,hZ⟩:∃ Z,Z=L.flatten:=⟨_,rfl⟩
 rw [← hZ] at h0 hn ⊢
 obtain ⟨N,hN⟩:∃ N,N=Z.length:=⟨_,rfl⟩
 rw [← hN] at h0 hn ⊢
 have HZ:=Lib.hid hZ
 have HN:=Lib.hid hN
 have HUP:Hid (∀ i,lenUp L i≤N):=Lib.hid fun i=>by rw [hN,hZ];exact lenUp_le L i
 clear h hZ hN
 go_enter Tryz.func34,Tryz.ntmps34
 go_wp2
 go_loopw [3,11] (fun s i wr=>∃ j u:Nat,j≤k∧i=.int .i64 j∧s=.int .i64 u∧u≤N∧u=lenUp L j∧wr=w) (fun _ i _=>k - (intOf i).toNat)
 case atStart=>exact ⟨0,0,by omega,rfl,rfl,by omega,by simp [lenUp],rfl⟩
 case round=>
  obtain ⟨j,u,hj,rfl,rfl,hun,hu,hwr⟩:=hrel
  obtain rfl:=hwr.symm
  have HU:=Lib.hid hu
  clear hu
  rcases Nat.lt_or_ge j k with hlt | hge
  ·have hlt':(j:Int) < (k:Int):=by omega
   have hx:L[j]?=some (L[j]'(by rw [HLEN.out];exact hlt)):=List.getElem?_eq_getElem _
   obtain ⟨ad,B,cb,rfl,g1,g2,g3⟩:=HL.out.at_ j _ hx
   obtain ⟨x,hxe⟩:∃ x,x=L[j]'(by rw [HLEN.out];exact hlt):=⟨_,rfl⟩
   rw [← hxe] at hx g1 g2 g3
   have hsn:=lenUp_snoc hx
   have hle:=HUP.out (j+1)
   rw [hsn,← HU.out] at hle
   have hw1:IntKind.i64.wrap ((u:Int)+(x.length:Int))=((u+x.length:Nat):Int):=by rw [IntWalk.i64_in _ (by omega)];push_cast;rfl
   have hp2:¬ (((u+x.length:Nat):Int) < 0):=by omega
   obtain ⟨t,ht⟩:∃ t,t=u+x.length:=⟨_,rfl⟩
   have HT:Hid (t=lenUp L (j+1)):=Lib.hid (by rw [hsn,← HU.out];exact ht)
   rw [← ht] at hw1 hp2 hle
   clear ht hsn g3 hxe hx
   go_wp2
   go_roundw
   case rel=>exact ⟨j+1,t,by omega,by go_num,by first | rfl | trivial,hle,HT.out,by first | rfl | trivial⟩
   case measure=>simp [intOf];omega
  ·obtain rfl:j=k:=by omega
   have hz:¬ ((j:Int) < (j:Int)):=by omega
   have huN:u=N:=by
    rw [HU.out]
    unfold lenUp
    rw [List.take_of_length_le (by rw [HLEN.out];exact Nat.le_refl _),← HZ.out,← HN.out]
   subst huN
   go_wp2_with fail
   refine (kGrow_any w u h0 hn).mono ?_
   rintro e w1 ⟨c1,rfl,hown,hb⟩
   have HB1:=Lib.hid hb
   have HO1:=Lib.hid hown
   clear hown hb
   go_wp2
   go_loopw [6,27] (fun v i wi=>∃ (q:Nat) (y:Nm),q≤j∧i=.int .i64 q∧y=(L.take q).flatten∧wi.ownsRow w.heap.size 5 1 v y.length (y.map byteV)∧Below w.heap.size w wi) (fun _ i _=>j - (intOf i).toNat)
   case atStart=>exact ⟨0,[],by omega,rfl,rfl,by simpa using HO1.out,HB1.out⟩
   case round=>
    clear HO1 HB1
    obtain ⟨q,y,hq,rfl,hy,hO,hB⟩:=hrel
    have HY:=Lib.hid hy
    clear hy
    have HO:=Lib.hid hO
    have HB:=Lib.hid hB
    clear hO hB
    obtain ⟨Av,cv,hv⟩:=own_slice HO.out
    subst hv
    rcases Nat.lt_or_ge q j with hlt | hge2
    ·have hlt':(q:Int) < (j:Int):=by omega
     have hx:L[q]?=some (L[q]'(by rw [HLEN.out];exact hlt)):=List.getElem?_eq_getElem _
     obtain ⟨ad,B,cb,rfl,g1,g2,g3⟩:=(HL.out.below HB.out).at_ q _ hx
     obtain ⟨x,hxe⟩:∃ x,x=L[q]'(by rw [HLEN.out];exact hlt):=⟨_,rfl⟩
     rw [← hxe] at hx g1 g2 g3
     have hsn:=flat_snoc hx
     have hle:=HUP.out (q+1)
     unfold lenUp at hle
     rw [hsn,List.length_append,← HY.out] at hle
     rw [← HY.out] at hsn
     have HG3:=Lib.hid g3
     have HSN:=Lib.hid hsn
     have hsz:=HB.out.size
     clear hsn hxe hx g3
     go_wp2_with (at_builtin;refine wpList_append_src _ rfl _ _ 24 rfl w.heap.size 5 i0 (.int .u8 0) 1 Tryz.underlying24 hi hz0 hz1 hz2 rfl _ y.length (y.map byteV) rfl HO.out B x.length cb (x.map byteV) rfl HG3.out.2.1 (u8_one x) (by unfold maxLen;omega) (by omega) hsz ?_;intro v2 w2 hown2 hgrow2 hloc2;have HO2:=Lib.hid hown2;have HB2:=Lib.hid (HB.out.grown hgrow2 hsz (fun k e=>(HO.out.lt k e).1));clear hown2 hgrow2 hloc2)
     go_roundw
     case rel=>exact ⟨q+1,y++x,by omega,by go_num,HSN.out.symm,by rw [List.length_append,List.map_append];exact HO2.out,HB2.out⟩
     case measure=>simp [intOf];omega
    ·obtain rfl:q=j:=by omega
     have hz:¬ ((q:Int) < (q:Int)):=by omega
     have hfin:y=Z:=by rw [HY.out,List.take_of_length_le (by rw [HLEN.out];exact Nat.le_refl _),HZ.out]
     subst hfin
     go_wp2
     go_ret
     exact ⟨_,rfl,by rw [HN.out];exact HO.out,HB.out⟩
theorem rows2 (w:World) (A B:Option Addr) (c d:Nat) (x y:Nm) (hx:BytesIn w A x.length x) (hy:BytesIn w B y.length y) (hc:x.length≤c) (hd:y.length≤d):
  RowsSee (w.alloc (.cells #[.slice A x.length c,.slice B y.length d] 24)) (some ⟨w.heap.size,0,none⟩) 2 [x,y]:=by
 have hb:Below w.heap.size w (w.alloc (.cells #[.slice A x.length c,.slice B y.length d] 24)):=(Below.refl _ w).alloc (Nat.le_refl _) _
 have hB:=Blk.new w 24 #[.slice A x.length c,.slice B y.length d]
 refine ⟨rfl,by unfold maxLen;omega,fun i z hz=>?_⟩
 match i with
 | 0=>simp at hz;subst hz;exact ⟨_,A,c,rfl,hB.cell 0,hc,hx.below hb⟩
 | 1=>simp at hz;subst hz;exact ⟨_,B,d,rfl,hB.cell 1,hd,hy.below hb⟩
 | i+2=>simp at hz
theorem rows3 (w:World) (A B D:Option Addr) (c d f:Nat) (x y z:Nm) (hx:BytesIn w A x.length x) (hy:BytesIn w B y.length y) (hz:BytesIn w D z.length z) (hc:x.length≤c) (hd:y.length≤d) (hf:z.length≤f):
  RowsSee (w.alloc (.cells #[.slice A x.length c,.slice B y.length d,.slice D z.length f] 24)) (some ⟨w.heap.size,0,none⟩) 3 [x,y,z]:=by
 have hb:Below w.heap.size w (w.alloc (.cells #[.slice A x.length c,.slice B y.length d,.slice D z.length f] 24)):=(Below.refl _ w).alloc (Nat.le_refl _) _
 have hB:=Blk.new w 24 #[.slice A x.length c,.slice B y.length d,.slice D z.length f]
 refine ⟨rfl,by unfold maxLen;omega,fun i u hu=>?_⟩
 match i with
 | 0=>simp at hu;subst hu;exact ⟨_,A,c,rfl,hB.cell 0,hc,hx.below hb⟩
 | 1=>simp at hu;subst hu;exact ⟨_,B,d,rfl,hB.cell 1,hd,hy.below hb⟩
 | 2=>simp at hu;subst hu;exact ⟨_,D,f,rfl,hB.cell 2,hf,hz.below hb⟩
 | i+3=>simp at hu
theorem equal_any (w:World) (A B:Option Addr) (n m ca cb:Nat) (la lb:Nm) (ha:BytesIn w A n la) (hb:BytesIn w B m lb):
  Calls Tryz.prog 174 #[.slice A n ca,.slice B m cb] w fun e w'=>e=.returned (.bool (decide (la=lb)))∧w'=w:=by
 have c1:=str_of ha ca
 have c2:=str_of hb cb
 clear ha hb
 by_cases h:la=lb
 ·subst h
  rw [decide_eq_true rfl]
  go_enter Tryz.func174,Tryz.ntmps174
  go_wp2
  go_ret
  simp
 ·have d1:(la==lb)=false:=by simpa using h
  rw [decide_eq_false h]
  go_enter Tryz.func174,Tryz.ntmps174
  go_wp2
  go_ret
  simp
end Go.Proofs.YthcjikpabpgpfaaGreat
