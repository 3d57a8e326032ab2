import Derived.Test.YthcjikpabpgpfaaGreatZp0
import Derived.Test.YthcjikpabpgpfaaGreatZp3
import Derived.RegionTactic
import Derived.Deep.RegionHeld3
import Derived.Deep.RegionLaw
import Derived.ProofKit
import Derived.OpenShut
import Derived.ChangeOld
import Derived.SizedLaws
import Derived.Deep.Slices
import Derived.Deep.Fields
import Derived.Lib.SmallJoins
import Derived.Lib.SlBytesConst
import Derived.Laws.OwnMore
import Derived.Test.YthcjikpabpgpfaaGreatZp2
import Derived.Laws.Rows
import Derived.Laws.Tables
import Derived.Laws.ResultCell
import Derived.Laws.BitsAllLaws
import Derived.Deep.WholeRow
import Derived.Deep.Quiet
import Derived.Deep.QuietTactic
set_option linter.unusedSimpArgs false
set_option maxHeartbeats 16000000
set_option maxRecDepth 100000
namespace Go.Proofs.YthcjikpabpgpfaaGreat
open Go.RowKit Go.Maps Go.WideMaps Go.ChangeShapes Go.WideShapes Go.ChangeAt Go.Deep
theorem byteInfo:(Tryz.prog.info? 5).map (fun i=>(i.zero,i.size,i.bytes))=some (some (.int .u8 0),1,1):=by kernel_rfl
theorem slice_to (w:World) (A:Option Addr) (n c p:Nat) (h:p≤c):(Instr.slice 24 (.slice A n c) none (some (.int .i64 p)) none).run Tryz.prog w=.ok (.slice A p c) w:=by
 obtain ⟨i0,hi,hz0,hz1,hz2⟩:=info_parts byteInfo
 rw [run_slice_h (P:=Tryz.prog) (w:=w) 24 A n c Tryz.underlying24 .i64 p (by omega) (by omega)]
 have he:Tryz.prog.elem 24=5:=by kernel_rfl
 rw [he]
 have hs:(sizeOf 5).run Tryz.prog w=Result.ok i0.size w:=by
  rw [run_sizeOf w hi]
  unfold Program.cellsOf
  rw [hi]
  rfl
 rw [hs]
 simp [Result.andThen,sliced,Addr.add]
section
variable {H:Type} {enc:TypeId×Value→H} {w:World}
end
end Go.Proofs.YthcjikpabpgpfaaGreat
namespace Go.Proofs.YthcjikpabpgpfaaGreat
open Go.RowKit Go.Maps Go.WideMaps
theorem BytesIn.below {w w':World} {A:Option Addr} {n:Nat} {l:Nm} (h:BytesIn w A n l) (hb:Below w.heap.size w w'):BytesIn w' A n l:=
 ⟨h.1,h.2.1.keep fun ad e hn=>hb.block _ (h.2.2 ad e hn),fun ad e hn=>Nat.lt_of_lt_of_le (h.2.2 ad e hn) hb.size⟩
theorem BytesIn.nil (w:World):BytesIn w none 0 []:=⟨by unfold maxLen;omega,⟨rfl,(fun ad e=>by cases e),fun _=>rfl⟩,fun ad e=>by cases e⟩
theorem BytesIn.ofRow {w:World} {g n:Nat} {l:Nm} {t:TypeId} {fr:Nat×Nat} (h:w.heap[g]?=some (.cells (l.map byteV).toArray t fr)) (hn:l.length=n) (h63:n≤maxLen):BytesIn w (some ⟨g,0,none⟩) n l:=by
 have hlt:g < w.heap.size:=by
  rcases Nat.lt_or_ge g w.heap.size with h1 | h1
  ·exact h1
  ·rw [Array.getElem?_eq_none h1] at h;cases h
 refine ⟨h63,⟨by simpa using hn,fun ad e j u hu=>?_,fun e=>by cases e⟩,fun ad e _=>?_⟩
 ·cases e
  have e2:(⟨g,0,none⟩:Addr).add j=⟨g,j,none⟩:=by
   unfold Addr.add
   split
   ·rename_i h0;rw [h0]
   ·simp
  rw [e2,cell_of_row w g j _ t fr h]
  simpa using hu
 ·cases e
  exact hlt
theorem const_in (w:World) (l:Nm) (fr:Nat×Nat) (h63:l.length≤maxLen):BytesIn (w.alloc (.cells (l.map byteV).toArray 5 fr)) (some ⟨w.heap.size,0,none⟩) l.length l:=
 BytesIn.ofRow (heap_alloc_new w _) rfl h63
theorem one_src (w:World) (x:UInt8):Src (w.alloc (.cells #[.int .u8 x.toNat] 5)) (some ⟨w.heap.size,0,none⟩) 1 ([x].map byteV):=
 (BytesIn.ofRow (n:=1) (l:=[x]) (heap_alloc_new w _) rfl (by unfold maxLen;omega)).2.1
theorem own_alloc {w:World} {base n:Nat} {v:Value} {xs:List Value} (h:w.ownsRow base 5 1 v n xs) (o:Obj):(w.alloc o).ownsRow base 5 1 v n xs:=World.ownsRow.alloc h o
theorem BytesIn.part {w:World} {ad:Addr} {n:Nat} {l:Nm} (h:BytesIn w (some ad) n l) (p q:Nat) (hp:p≤q) (hq:q≤n):BytesIn w (some (ad.add p)) (q - p) ((l.take q).drop p):=by
 have hl:l.length=n:=by have:=h.2.1.len;simpa using this
 have hb:(ad.add p).block=ad.block:=by unfold Addr.add;split <;> rfl
 refine ⟨by have:=h.1;omega,⟨by simp;omega,fun a e j u hu=>?_,fun e=>by cases e⟩,fun a e h0=>?_⟩
 ·cases e
  have e2:(ad.add p).add j=ad.add (p+j):=by
   unfold Addr.add
   split <;> split <;> (first | rfl | (split <;> simp_all <;> omega) | (simp_all;omega) | skip)
  rw [e2]
  refine h.2.1.cells ad rfl (p+j) u ?_
  rw [List.getElem?_map,List.getElem?_drop,List.getElem?_take] at hu
  split at hu
  ·rw [List.getElem?_map];exact hu
  ·cases hu
 ·cases e
  rw [hb]
  exact h.2.2 ad rfl (by omega)
theorem BytesIn.drew {w:World} {A:Option Addr} {n:Nat} {l:Nm} (h:BytesIn w A n l):BytesIn w.drew A n l:=⟨h.1,⟨h.2.1.1,h.2.1.2,h.2.1.3⟩,h.2.2⟩
theorem BytesIn.drewN {w:World} {A:Option Addr} {n:Nat} {l:Nm} (h:BytesIn w A n l) (q:Nat):BytesIn (w.drewN q) A n l:=⟨h.1,⟨h.2.1.1,h.2.1.2,h.2.1.3⟩,h.2.2⟩
theorem BytesIn.own {w:World} {base:Nat} {A:Option Addr} {n c:Nat} {l:Nm} (h:w.ownsRow base 5 1 (.slice A n c) n (l.map byteV)) (h63:n≤maxLen):BytesIn w A n l:=
 ⟨h63,src_of_own h,fun ad e _=>(h.lt ad.block (by rw [e];rfl)).2⟩
theorem cell_this {w:World} {ad:Addr} {n K:Nat} {l:Nm} {x:UInt8} (h:BytesIn w (some ad) n l) (hx:l[K]?=some x):w.cell? (ad.add K)=some (.int .u8 x.toNat):=
 h.2.1.cells ad rfl K (byteV x) (by rw [List.getElem?_map,hx];rfl)
theorem BytesIn.at {w:World} {A:Option Addr} {n:Nat} {l:Nm} (h:BytesIn w A n l) (k:Nat) (hk:k < n):∃ ad x,A=some ad∧l[k]?=some x∧w.cell? (ad.add k)=some (.int .u8 x.toNat):=by
 have hl:l.length=n:=by have:=h.2.1.len;simpa using this
 cases hA:A with
 | none=>have:=h.2.1.nil hA;omega
 | some ad=>
  subst hA
  have hx:l[k]?=some (l[k]'(by omega)):=List.getElem?_eq_getElem _
  exact ⟨ad,_,rfl,hx,cell_this h hx⟩
theorem BytesIn.sub {w:World} {A:Option Addr} {n c:Nat} {l:Nm} (h:BytesIn w A n l) (hc:n≤c) (p q:Nat) (hp:p≤q) (hq:q≤n):BytesIn w (cutAddr A p c) (q - p) ((l.take q).drop p):=by
 have hl:l.length=n:=by have:=h.2.1.len;simpa using this
 unfold cutAddr
 by_cases hcp:c=p
 ·rw [if_pos hcp]
  have e:(l.take q).drop p=[]:=List.eq_nil_of_length_eq_zero (by simp;omega)
  rw [e,show q - p=0 by omega]
  exact ⟨Nat.zero_le _,⟨rfl,fun ad _ j u hu=>by simp at hu,fun _=>rfl⟩,fun ad _ h0=>by omega⟩
 ·rw [if_neg hcp]
  cases A with
  | none=>
   have:=h.2.1.nil rfl
   have e:(l.take q).drop p=[]:=List.eq_nil_of_length_eq_zero (by simp;omega)
   rw [e,show q - p=0 by omega]
   exact ⟨Nat.zero_le _,⟨rfl,fun ad _ j u hu=>by simp at hu,fun _=>rfl⟩,fun ad _ h0=>by omega⟩
  | some ad=>exact h.part p q hp hq
theorem BytesIn.upto {w:World} {A:Option Addr} {n:Nat} {l:Nm} (h:BytesIn w A n l) (q:Nat) (hq:q≤n):BytesIn w A q (l.take q):=by
 have hl:l.length=n:=by have:=h.2.1.len;simpa using this
 refine ⟨Nat.le_trans hq h.1,⟨by simp;omega,fun ad e j u hu=>?_,fun e=>by have:=h.2.1.nil e;omega⟩,fun ad e h0=>h.2.2 ad e (by omega)⟩
 refine h.2.1.cells ad e j u ?_
 rw [List.getElem?_map,List.getElem?_take] at hu
 split at hu
 ·rw [List.getElem?_map];exact hu
 ·cases hu
theorem elemSize (w:World):(sizeOf (Tryz.prog.elem 24)).run Tryz.prog w=.ok 1 w:=by
 obtain ⟨i0,hi,hz0,hz1,hz2⟩:=info_parts byteInfo
 rw [show Tryz.prog.elem 24=5 by kernel_rfl,run_sizeOf w hi]
 unfold Program.cellsOf
 rw [hi]
 simp [hz1]
theorem slice_from (w:World) (A:Option Addr) (n c p:Nat) (hp:p≤n):(Instr.slice 24 (.slice A n c) (some (.int .i64 p)) none none).run Tryz.prog w=.ok (.slice (cutAddr A p c) (n - p) (c - p)) w:=by
 rw [run_slice_l (P:=Tryz.prog) (w:=w) 24 A n c Tryz.underlying24 .i64 p (by omega) (by omega),elemSize]
 simp [Result.andThen,sliced,cutAddr]
theorem slice_both (w:World) (A:Option Addr) (n c p q:Nat) (hp:p≤q) (hq:q≤c):(Instr.slice 24 (.slice A n c) (some (.int .i64 p)) (some (.int .i64 q)) none).run Tryz.prog w=.ok (.slice (cutAddr A p c) (q - p) (c - p)) w:=by
 rw [run_slice_lh (P:=Tryz.prog) (w:=w) 24 A n c Tryz.underlying24 .i64 .i64 p q (by omega) (by omega) (by omega),elemSize]
 simp [Result.andThen,sliced,cutAddr]
def u32v (n:Nat):Value:=.int .u32 n
def zeros:Array Value:=Array.replicate 256 (.int .u32 0)
def bitsA:Array Nat:=#[1996959894,3993919788,124634137,249268274,498536548,997073096,1994146192,3988292384]
def bits8:Array Value:=#[.int .u32 1996959894,.int .u32 3993919788,.int .u32 124634137,.int .u32 249268274,.int .u32 498536548,.int .u32 997073096,.int .u32 1994146192,.int .u32 3988292384]
def tabCells:Array Value:=(Array.range 256).map fun i=>u32v (s8 i)
theorem tabInfo:(Tryz.prog.info? 281).map (fun i=>(i.zero,i.size))=some (some (.agg zeros),256):=by kernel_rfl
structure TabAt (w wx:World) (m:Nat):Prop where
 below:Below w.heap.size w wx
 out:Blk wx w.heap.size 281 zeros
 eight:Blk wx (w.heap.size+1) 292 bits8
 tab:∃ C:Array Value,C.size=256∧Blk wx (w.heap.size+2) 281 C∧(∀ j,j < m→C[j]?=some (u32v (s8 j)))∧∀ j,j < 256→∃ n:Int,C[j]?=some (.int .u32 n)
theorem or_step:∀ (i:Fin 8) (j:Fin 128),j.val < 2 ^ i.val→bits .or .i64 ((2 ^ i.val:Nat):Int) (j.val:Int)=((2 ^ i.val+j.val:Nat):Int)∧2 ^ i.val ||| j.val=2 ^ i.val+j.val:=by decide +kernel
theorem eight_at:∀ i:Fin 8,bits8[i.val]?=some (u32v (bitsA.getD i.val 0))∧bitsA.getD i.val 0 < 4294967296:=by
 intro i
 match i with
 | 0 | 1 | 2 | 3 | 4 | 5 | 6 | 7=>exact ⟨rfl,by decide⟩
theorem TabAt.drew {w wx:World} {m:Nat} (h:TabAt w wx m):TabAt w wx.drew m:=⟨h.below.drew,h.out,h.eight,h.tab⟩
theorem TabAt.put {w wx:World} {m:Nat} (h:TabAt w wx m) (hm:m < 256):TabAt w (wx.setCell ⟨w.heap.size+1+1,m,none⟩ (.int .u32 (s8 m))) (m+1):=by
 obtain ⟨C,h1,h2,h3,h4⟩:=h.tab
 refine ⟨h.below.setCell (by simp;omega) _,h.out.far (by simp;omega) _,h.eight.far (by simp) _,C.setIfInBounds m (u32v (s8 m)),by simp [h1],h2.set_ m (u32v (s8 m)),fun j hj=>?_,fun j hj=>?_⟩
 ·rw [Array.getElem?_setIfInBounds]
  by_cases e:m=j
  ·subst e
   rw [if_pos rfl,if_pos (by omega)]
  ·rw [if_neg e]
   exact h3 j (by omega)
 ·rw [Array.getElem?_setIfInBounds]
  by_cases e:m=j
  ·subst e
   rw [if_pos rfl,if_pos (by omega)]
   exact ⟨_,rfl⟩
  ·rw [if_neg e]
   exact h4 j hj
theorem TabAt.start (w:World):TabAt w (((w.alloc (.cells zeros 281)).alloc (.cells bits8 292)).alloc (.cells zeros 281)) 1:=by
 have h0:Blk (w.alloc (.cells zeros 281)) w.heap.size 281 zeros:=Blk.new w _ _
 have h1:Blk ((w.alloc (.cells zeros 281)).alloc (.cells bits8 292)) (w.heap.size+1) 292 bits8:=by
  have:=Blk.new (w.alloc (.cells zeros 281)) 292 bits8
  simpa using this
 have h2:Blk (((w.alloc (.cells zeros 281)).alloc (.cells bits8 292)).alloc (.cells zeros 281)) (w.heap.size+2) 281 zeros:=by
  have:=Blk.new ((w.alloc (.cells zeros 281)).alloc (.cells bits8 292)) 281 zeros
  simpa using this
 refine ⟨(((Below.refl _ w).alloc (Nat.le_refl _) _).alloc (by simp) _).alloc (by simp;omega) _,(h0.alloc _).alloc _,h1.alloc _,zeros,by simp [zeros],h2,fun j hj=>?_,fun j hj=>⟨0,?_⟩⟩
 ·obtain rfl:j=0:=by omega
  have:s8 0=0:=by decide
  simp [zeros,u32v,this]
 ·simp [zeros,hj]
theorem table_any (w:World):Calls Tryz.prog 209 #[] w fun e w'=>e=.returned (.agg tabCells)∧Below w.heap.size w w':=by
 obtain ⟨hz,hi⟩:=zero_of_info tabInfo
 have HST:=Lib.hid (TabAt.start w)
 go_enter Tryz.func209,Tryz.ntmps209
 go_wp2
 have hz2:s8 0=0:=by decide
 go_loopw [7] (fun s wr=>∃ i:Nat,i≤8∧s=.int .i64 i∧TabAt w wr (2 ^ i)) (fun s _=>8 - (intOf s).toNat)
 case atStart=>exact ⟨0,by omega,rfl,HST.out⟩
 case round=>
  obtain ⟨i,hi8,rfl,hT⟩:=hrel
  clear HST
  have HT:=Lib.hid hT
  clear hT
  rcases Nat.lt_or_ge i 8 with hlt | hge
  ·have hlt':(i:Int) < 8:=by omega
   obtain ⟨M,hM⟩:∃ M:Nat,M=2 ^ i:=⟨_,rfl⟩
   have hMl:M≤128:=by
    have:=Nat.pow_le_pow_right (n:=2) (by omega) (show i≤7 by omega)
    omega
   have hshl:wrap64 (2 ^ i)=(M:Int):=by
    have e:(2:Int) ^ i=((2 ^ i:Nat):Int):=by simp
    rw [e,← hM]
    unfold wrap64
    omega
   rw [← hM] at HT
   obtain ⟨B,hB⟩:∃ B:Nat,B=bitsA.getD i 0:=⟨_,rfl⟩
   have he8:=eight_at ⟨i,hlt⟩
   simp only at he8
   rw [← hB] at he8
   obtain ⟨he8,hB32⟩:=he8
   have HE:=Lib.hid he8
   have HM:=Lib.hid hM
   have HB:=Lib.hid hB
   clear he8 hM hB
   go_wp2
   rw [hshl]
   clear hshl
   go_loopw [13] (fun s wr=>∃ l:Nat,l≤M∧s=.int .i64 l∧TabAt w wr (M+l)) (fun s _=>M - (intOf s).toNat)
   case atStart=>exact ⟨0,by omega,rfl,HT.out⟩
   case round=>
    clear HT
    obtain ⟨l,hlM,rfl,hT⟩:=hrel
    have HT:=Lib.hid hT
    clear hT
    rcases Nat.lt_or_ge l M with hl | hl
    ·have hl1:(l:Int) < (M:Int):=by omega
     have hl2:(l:Int) < 256:=by omega
     have hl3:((M+l:Nat):Int) < 256:=by omega
     have hor:bits .or .i64 (M:Int) (l:Int)=((M+l:Nat):Int):=by
      have:=(or_step ⟨i,hlt⟩ ⟨l,by omega⟩ (by rw [HM.out] at hl;exact hl)).1
      rw [HM.out]
      exact this
     obtain ⟨C,hC1,hC2,hC3,hC4⟩:=HT.out.tab
     have c1:wr.cell? ⟨w.heap.size+1+1,l,none⟩=some (.int .u32 (s8 l)):=(hC2.cell l).trans (hC3 l (by omega))
     have c2:wr.cell? ⟨w.heap.size+1,i,none⟩=some (.int .u32 B):=(HT.out.eight.cell i).trans HE.out
     have c3:∃ n:Int,wr.cell? ⟨w.heap.size+1+1,M+l,none⟩=some (.int .u32 n):=(hC4 (M+l) (by omega)).imp fun n h=>(hC2.cell (M+l)).trans h
     obtain ⟨n0,c3⟩:=c3
     have z3:wr.frozen? ⟨w.heap.size+1+1,M+l,none⟩=false:=hC2.frozen _
     have hx:bits .xor .u32 ((s8 l:Nat):Int) (B:Int)=((s8 (M+l):Nat):Int):=by
      rw [u32_xor_nat _ _ (s8_lt (by omega)) hB32]
      have h1:=tab_step ⟨i,hlt⟩ ⟨l,by omega⟩ (by rw [HM.out] at hl;exact hl)
      have h2:=(or_step ⟨i,hlt⟩ ⟨l,by omega⟩ (by rw [HM.out] at hl;exact hl)).2
      simp only at h1 h2
      rw [h2,← HM.out] at h1
      rw [h1,HB.out]
      congr 2
      match i,hlt with
      | 0,_ | 1,_ | 2,_ | 3,_ | 4,_ | 5,_ | 6,_ | 7,_=>rfl
     go_wp2
     go_region
     go_wp2
     go_roundw
     case rel=>exact ⟨l+1,by omega,by go_num,HT.out.drew.put (by omega)⟩
     case measure=>simp [intOf];omega
    ·obtain rfl:l=M:=by omega
     have hlz:¬ ((l:Int) < (l:Int)):=by omega
     go_wp2
     go_roundw
     case rel=>exact ⟨i+1,by omega,by go_num,by have:=HT.out;rw [HM.out] at this;rw [Nat.pow_succ,Nat.mul_two];exact this⟩
     case measure=>simp [intOf];omega
  ·obtain rfl:i=8:=by omega
   have hlt':¬ (((8:Nat):Int) < 8):=by omega
   obtain ⟨C,hC1,hC2,hC3,-⟩:=HT.out.tab
   have hC:C=tabCells:=by
    apply Array.ext_getElem?
    intro j
    rcases Nat.lt_or_ge j 256 with hj | hj
    ·rw [hC3 j (by simpa using hj)]
     simp [tabCells,hj]
    ·rw [Array.getElem?_eq_none (by omega),Array.getElem?_eq_none (by simp [tabCells];omega)]
   subst hC
   have hone:tabCells.all (·.oneCell')=true:=by
    rw [Array.all_eq_true_iff_forall_mem]
    intro v hv
    simp only [tabCells,Array.mem_map] at hv
    obtain ⟨j,_,rfl⟩:=hv
    rfl
   have HONE:=Lib.hid hone
   clear hone
   have hC2':wr.heap[w.heap.size+1+1]?=some (.cells tabCells 281 (0,0)):=hC2
   have hO:wr.heap[w.heap.size]?=some (.cells zeros 281 (0,0)):=HT.out.out
   have hi':(Tryz.prog.info? 281).map (·.size)=some tabCells.size:=by rw [hC1];exact hi
   clear hi hz
   have HC2:=Lib.hid hC2'
   have HO:=Lib.hid hO
   have HI:=Lib.hid hi'
   clear hC2' hO hC2 hC1 hC3 hi'
   go_wp2
   refine wp_load_row 281 (.tmp 2) rfl (w.heap.size+1+1) rfl 281 tabCells (0,0) _ HC2.out Tryz.underlying281 rfl HI.out ?_
   rename_i hK
   apply hK
   refine wpList_store_row rfl 281 (.tmp 0) (.tmp 29) rfl w.heap.size tabCells rfl rfl 281 zeros HO.out HI.out (by simp [zeros,tabCells]) HONE.out ?_
   go_wp2
   have hb:=HT.out.below
   have hs:=hb.size
   refine bodyPost_ret (v:=.agg tabCells) ?_ rfl ⟨rfl,⟨hb.os,hb.tape,hb.output,by simpa using hs,fun k hk=>(setRow_other _ _ _ _ (by omega)).trans (hb.block k hk)⟩⟩
   exact results_cell_row rfl _ _ w.heap.size 281 tabCells (0,0) _ rfl (setRow_heap _ _ zeros _ _ _ HO.out) Tryz.underlying281 rfl HI.out
end Go.Proofs.YthcjikpabpgpfaaGreat
