import Derived.Test.YthcjikpabpgpfaaGreatZp0
import Derived.Test.YthcjikpabpgpfaaGreatZp22
import Derived.Test.YthcjikpabpgpfaaGreatZp15
import Derived.Test.YthcjikpabpgpfaaGreatZp20
set_option linter.unusedSimpArgs false
set_option maxHeartbeats 16000000
set_option maxRecDepth 100000
namespace Go.Proofs.YthcjikpabpgpfaaGreat
open Go.RowKit Go.Maps Go.WideMaps
theorem hasToken_is (w:World) (F:Nat→Prop) (b:Nat) (V:Voc) (hG:Grow w F b V) (A:Option Addr) (n c:Nat) (x:Nm) (hx:BytesIn w A n x) {r:Bool} (hr:decide (0≤findT V.tok x)=r):
  Calls Tryz.prog 135 #[at0 b,.slice A n c] w fun e w'=>e=.returned (.bool r)∧Below w.heap.size w w':=by
 have h:=hasToken_any w F b V hG A n c x hx
 rw [hr] at h
 exact h
theorem isFree_is (w:World) (F:Nat→Prop) (b:Nat) (V:Voc) (hG:Grow w F b V) (x y:Int) (hx:fits64 x) (hy:fits64 y) {r:Bool} (hr:(decide (0≤x∧x < V.tok.length)&&(decide (0≤y∧y < V.tok.length)&&!(mergedB V.mer x y)))=r):
  Calls Tryz.prog 137 #[at0 b,.agg #[.int .i64 x,.int .i64 y]] w fun e w'=>e=.returned (.bool r)∧Below w.heap.size w w':=by
 have h:=isFree_any w F b V hG x y hx hy
 rw [hr] at h
 exact h
theorem mayAdd_any (w:World) (F:Nat→Prop) (b:Nat) (V:Voc) (hG:Grow w F b V) (A:Option Addr) (n c:Nat) (x:Nm) (hx:BytesIn w A n x):
  Calls Tryz.prog 88 #[at0 b,.slice A n c] w fun e w'=>e=.returned (.bool (decide (0 < n)&&(decide (n≤16)&&decide (findT V.tok x < 0))))∧Below w.heap.size w w':=by
 have HG:=Lib.hid hG
 have HX:=Lib.hid hx
 clear hG hx
 by_cases h0:0 < n
 ·have z0:(0:Int) < (n:Int):=by omega
  by_cases h1:n≤16
  ·have z1:(n:Int)≤16:=by omega
   rw [decide_eq_true h0,decide_eq_true h1]
   cases hr:decide (0≤findT V.tok x) with
   | false=>
    have HR:=Lib.hid hr
    have hneg:decide (findT V.tok x < 0)=true:=by simp at hr;simpa using hr
    rw [hneg]
    clear hr hneg
    go_enter Tryz.func88,Tryz.ntmps88
    go_wp2_with fail
    refine (hasToken_is _ F b V HG.out A n c x HX.out HR.out).mono ?_
    rintro e w1 ⟨rfl,hb⟩
    have HB:=Lib.hid hb
    clear hb
    go_wp2
    go_ret
    exact ⟨rfl,HB.out⟩
   | true=>
    have HR:=Lib.hid hr
    have hneg:decide (findT V.tok x < 0)=false:=by simp at hr;simpa using hr
    rw [hneg]
    clear hr hneg
    go_enter Tryz.func88,Tryz.ntmps88
    go_wp2_with fail
    refine (hasToken_is _ F b V HG.out A n c x HX.out HR.out).mono ?_
    rintro e w1 ⟨rfl,hb⟩
    have HB:=Lib.hid hb
    clear hb
    go_wp2
    go_ret
    exact ⟨rfl,HB.out⟩
  ·have z1:¬ (n:Int)≤16:=by omega
   rw [decide_eq_false h1]
   go_enter Tryz.func88,Tryz.ntmps88
   go_wp2
   go_ret
   exact ⟨by simp,Below.refl _ _⟩
 ·have z0:¬ (0:Int) < (n:Int):=by omega
  rw [decide_eq_false h0]
  go_enter Tryz.func88,Tryz.ntmps88
  go_wp2
  go_ret
  exact ⟨rfl,Below.refl _ _⟩
theorem mayAdd_is (w:World) (F:Nat→Prop) (b:Nat) (V:Voc) (hG:Grow w F b V) (A:Option Addr) (n c:Nat) (x:Nm) (hx:BytesIn w A n x) {r:Bool} (hr:(decide (0 < n)&&(decide (n≤16)&&decide (findT V.tok x < 0)))=r):
  Calls Tryz.prog 88 #[at0 b,.slice A n c] w fun e w'=>e=.returned (.bool r)∧Below w.heap.size w w':=by
 have h:=mayAdd_any w F b V hG A n c x hx
 rw [hr] at h
 exact h
theorem hasSingles_any (w:World) (F:Nat→Prop) (b:Nat) (V:Voc) (hG:Grow w F b V):
  Calls Tryz.prog 90 #[at0 b] w fun e w'=>e=.returned (.bool ((List.range 256).all fun c=>decide (0≤findT V.tok [UInt8.ofNat c])))∧Below w.heap.size w w':=by
 have HG:=Lib.hid hG
 obtain ⟨R,hR⟩:∃ R,R=(List.range 256).all fun c=>decide (0≤findT V.tok [UInt8.ofNat c]):=⟨_,rfl⟩
 rw [← hR]
 have HR:=Lib.hid hR
 clear hG hR
 go_enter Tryz.func90,Tryz.ntmps90
 go_wp2
 go_loopw [4] (fun i wr=>∃ j:Nat,j≤256∧i=.int .i64 j∧Below w.heap.size w wr∧∀ c,c < j→0≤findT V.tok [UInt8.ofNat c]) (fun i _=>256 - (intOf i).toNat)
 case atStart=>exact ⟨0,by omega,rfl,Below.refl _ _,fun c h=>by omega⟩
 case round=>
  obtain ⟨j,hj,rfl,hB,hok⟩:=hrel
  have HB:=Lib.hid hB
  have HOK:=Lib.hid hok
  clear hB hok
  rcases Nat.lt_or_ge j 256 with hlt | hge
  ·have hlt':(j:Int) < 256:=by omega
   obtain ⟨x,rfl⟩:∃ x:UInt8,j=x.toNat:=⟨UInt8.ofNat j,by rw [UInt8.toNat_ofNat_of_lt' (by show _ < 256;omega)]⟩
   have hxx:UInt8.ofNat x.toNat=x:=by simp
   have HXX:=Lib.hid hxx
   have hin:=const_in wr [x] (0,0) (by unfold maxLen;simp)
   have hb1:=HB.out.alloc HB.out.size (.cells #[.int .u8 x.toNat] 5)
   have HB1:=Lib.hid hb1
   have HIN:=Lib.hid hin
   have HG1:=Lib.hid (HG.out.kept hb1)
   clear hin hb1 hxx
   go_wp2_with fail
   cases hr:decide (0≤findT V.tok [x]) with
   | false=>
    have HRR:=Lib.hid hr
    refine (hasToken_is _ F b V HG1.out (some ⟨wr.heap.size,0,none⟩) 1 1 [x] HIN.out HRR.out).mono ?_
    rintro e w1 ⟨rfl,hb⟩
    have HF:=Lib.hid (below_then HB1.out hb HB1.out.size)
    have hfin:R=false:=by
     rw [HR.out]
     exact all_range_false hlt (by rw [HXX.out];exact hr)
    have HFIN:=Lib.hid hfin
    clear hfin hb hr
    go_wp2
    go_ret
    exact ⟨by rw [HFIN.out];rfl,HF.out⟩
   | true=>
    have HRR:=Lib.hid hr
    refine (hasToken_is _ F b V HG1.out (some ⟨wr.heap.size,0,none⟩) 1 1 [x] HIN.out HRR.out).mono ?_
    rintro e w1 ⟨rfl,hb⟩
    have HF:=Lib.hid (below_then HB1.out hb HB1.out.size)
    clear hb hr
    go_wp2
    go_roundw
    case rel=>
     refine ⟨x.toNat+1,by omega,by go_num,HF.out,fun c hc=>?_⟩
     rcases Nat.lt_or_ge c x.toNat with h | h
     ·exact HOK.out c h
     ·obtain rfl:c=x.toNat:=by omega
      rw [HXX.out]
      exact of_decide_eq_true HRR.out
    case measure=>simp [intOf];omega
  ·obtain rfl:j=256:=by omega
   have hjz:¬ (((256:Nat):Int) < 256):=by omega
   have hfin:R=true:=by
    rw [HR.out]
    exact all_range_true fun c hc=>decide_eq_true (HOK.out c hc)
   have HFIN:=Lib.hid hfin
   clear hfin
   go_wp2
   go_ret
   exact ⟨by rw [HFIN.out];rfl,HB.out⟩
def bothT (V:Voc) (a b:Int):Nm:=V.tok.getD a.toNat []++V.tok.getD b.toNat []
def freeB (V:Voc) (a b:Int):Bool:=decide (0≤a∧a < V.tok.length)&&(decide (0≤b∧b < V.tok.length)&&!(mergedB V.mer a b))
def mayM (V:Voc) (m:Mg):Bool:=freeB V m.a m.b&&(decide (0≤findT V.tok (bothT V m.a m.b))&&decide (findT V.tok (bothT V m.a m.b)=m.t))
def ShortT (V:Voc):Prop:=∀ x∈V.tok,1≤x.length∧x.length≤16
theorem free_idx {V:Voc} {a b:Int} (h:freeB V a b=true):∃ (i j:Nat) (x y:Nm),a=i∧b=j∧V.tok[i]?=some x∧V.tok[j]?=some y∧bothT V a b=x++y∧mergedB V.mer a b=false:=by
 unfold freeB at h
 simp only [Bool.and_eq_true,decide_eq_true_eq,Bool.not_eq_true'] at h
 obtain ⟨h1,h2,h3⟩:=h
 have ha:V.tok[a.toNat]?=some (V.tok[a.toNat]'(by omega)):=List.getElem?_eq_getElem _
 have hb:V.tok[b.toNat]?=some (V.tok[b.toNat]'(by omega)):=List.getElem?_eq_getElem _
 exact ⟨a.toNat,b.toNat,_,_,by omega,by omega,ha,hb,by unfold bothT;rw [List.getD_eq_getElem?_getD,List.getD_eq_getElem?_getD,ha,hb];rfl,h3⟩
theorem heldMoreV {P:Program} {md:Region.Mode} {ops:Array Oper} {Q:Exit→Act→World→Prop} {S S':World→Prop} (h:∀ w,S' w→S w):∀ (fuel:Nat) (listed:Array Bool) (a:Act) (w:World),wpAnyH P md ops Q S' fuel listed a w→wpAnyH P md ops Q S fuel listed a w
 | 0,_,_,_,k=>k
 | fuel+1,_,_,_,k=>⟨k.1,fun i hi=>wpOp_mono (fun a' w' h'=>⟨h w' h'.1,heldMoreV h fuel _ a' w' h'.2⟩) (k.2 i hi)⟩
theorem mayMerge_any (w:World) (F:Nat→Prop) (b:Nat) (V:Voc) (hG:Grow w F b V) (hsh:ShortT V) (m:Mg) (hm:mgFits m):
  Calls Tryz.prog 91 #[at0 b,.agg #[.int .i64 m.a,.int .i64 m.b,.int .i64 m.t]] w fun e w'=>e=.returned (.bool (mayM V m))∧Below w.heap.size w w':=by
 obtain ⟨R,hR⟩:∃ R,R=mayM V m:=⟨_,rfl⟩
 rw [← hR]
 unfold mayM at hR
 have HG:=Lib.hid hG
 have HR:=Lib.hid hR
 have HSH:=Lib.hid hsh
 clear hG hR hsh
 have b1:Below w.heap.size w (w.alloc (.cells #[.int .i64 m.a,.int .i64 m.b,.int .i64 m.t] 88)):=(Below.refl _ w).alloc (Nat.le_refl _) _
 obtain ⟨W1,hW1⟩:∃ W1,W1=w.alloc (.cells #[.int .i64 m.a,.int .i64 m.b,.int .i64 m.t] 88):=⟨_,rfl⟩
 have hpb:Blk W1 w.heap.size 88 #[.int .i64 m.a,.int .i64 m.b,.int .i64 m.t]:=by rw [hW1];exact Blk.new _ _ _
 rw [← hW1] at b1
 have m0:=hpb.cell 0
 have m1:=hpb.cell 1
 have m2:=hpb.cell 2
 simp only [lz0,lz1,lz2] at m0 m1 m2
 have HW:=Lib.hid hW1
 have HPB:=Lib.hid hpb
 have HB1:=Lib.hid b1
 clear hW1 hpb b1
 unfold at0
 go_enter Tryz.func91,Tryz.ntmps91
 go_wp2_with fail
 rw [← HW.out]
 go_wp2_with fail
 refine (pairOf_any _ m.a m.b m.t).mono ?_
 rintro e w2 ⟨rfl,hb2⟩
 have HB2:=Lib.hid (below_then HB1.out hb2 HB1.out.size)
 have HP2:=Lib.hid (HPB.out.below hb2 HPB.out.lt)
 clear hb2 m0 m1 m2
 have hb3:=HB2.out.alloc HB2.out.size (.cells #[.int .i64 m.a,.int .i64 m.b] 73)
 obtain ⟨W3,hW3⟩:∃ W3,W3=w2.alloc (.cells #[.int .i64 m.a,.int .i64 m.b] 73):=⟨_,rfl⟩
 have hq:Blk W3 w2.heap.size 73 #[.int .i64 m.a,.int .i64 m.b]:=by rw [hW3];exact Blk.new _ _ _
 have HP3:=Lib.hid (HP2.out.alloc (.cells #[.int .i64 m.a,.int .i64 m.b] 73))
 rw [← hW3] at hb3 HP3
 have p0:=hq.cell 0
 have p1:=hq.cell 1
 simp only [lz0,lz1,lz2] at p0 p1
 have HB3:=Lib.hid hb3
 have HW3:=Lib.hid hW3
 have HQ:=Lib.hid hq
 have HG3:=Lib.hid (HG.out.kept hb3)
 clear hb3 hW3 hq
 go_wp2_with fail
 try rw [← HW3.out]
 cases hf:freeB V m.a m.b with
 | false=>
  have HF:=Lib.hid hf
  refine (isFree_is W3 F b V HG3.out m.a m.b hm.1 hm.2.1 HF.out).mono ?_
  rintro e w4 ⟨rfl,hb4⟩
  have HB4:=Lib.hid (below_then HB3.out hb4 HB3.out.size)
  have hfin:R=false:=by rw [HR.out,HF.out];rfl
  have HFIN:=Lib.hid hfin
  clear hb4 hf hfin
  go_wp2
  go_ret
  exact ⟨by rw [HFIN.out];rfl,HB4.out⟩
 | true=>
  have HF:=Lib.hid hf
  refine (isFree_is W3 F b V HG3.out m.a m.b hm.1 hm.2.1 HF.out).mono ?_
  rintro e w4 ⟨rfl,hb4⟩
  have HB4:=Lib.hid (below_then HB3.out hb4 HB3.out.size)
  have HG4:=Lib.hid (HG3.out.kept hb4)
  have HP4:=Lib.hid (HP3.out.below hb4 HP3.out.lt)
  have HQ4:=Lib.hid (HQ.out.below hb4 HQ.out.lt)
  obtain ⟨i,j,x,y,hi,hj,hx,hy,hboth,-⟩:=free_idx hf
  rw [hf,hboth,Bool.true_and] at HR
  have q0:=HQ4.out.cell 0
  have q1:=HQ4.out.cell 1
  have q2:=HP4.out.cell 2
  obtain ⟨tv,mv,bt,bp,svs,DT,DP,h⟩:=HG4.out
  have q3:=h.blk.cell 2
  simp only [lz0,lz1,lz2] at q0 q1 q2 q3
  have hxl:=HSH.out x (List.mem_of_getElem? hx)
  have hyl:=HSH.out y (List.mem_of_getElem? hy)
  have HX:=Lib.hid hx
  have HY:=Lib.hid hy
  have HT:=Lib.hid h.tmap
  have HIT:=Lib.hid h.isT
  have HXL:=Lib.hid hxl
  have HYL:=Lib.hid hyl
  obtain ⟨k,hk⟩:∃ k,k=m.t:=⟨_,rfl⟩
  rw [← hk] at HR q2
  have hkf:=hm.2.2
  rw [← hk] at hkf
  clear hb4 hf hboth h hx hy hxl hyl p0 p1 hk
  rw [hi] at q0
  rw [hj] at q1
  have HI:=Lib.hid hi
  have HJ:=Lib.hid hj
  clear hi hj
  go_wp2_with fail
  refine wp_region_held_drew (S:=fun w'=>Below w4.heap.size w4 w'∧w'.cell? ⟨b,2,none⟩=some (.map (some bt))∧w'.cell? ⟨w2.heap.size,0,none⟩=some (.int .i64 (i:Int))∧w'.cell? ⟨w2.heap.size,1,none⟩=some (.int .i64 (j:Int))) (by kernel_rfl) ?_ (fun hHeld=>?_)
  ·exact ⟨(Below.refl _ w4).drew,q3,q0,q1⟩
  refine wpAnyH_take (i:=0) (oi:=?oia0) (v:=?va0) ?hia0 (by kernel_rfl) (by kernel_rfl) (by kernel_rfl) ?hQa0 (Or.inl ⟨?hwa0,?hya0⟩) (by assumption) ?resta0
  case hia0=>(first | (simp only [lz0,lz1,lz2];rfl) | rfl)
  case hQa0=>exact fun _ _ _ h=>h
  case hwa0=>rfl
  case hya0=>((intro w hSw;go_simp);first | done | with_reducible rfl)
  try simp only [Act.put,lz3,lz4,lz5]
  refine wpAnyH_take (i:=1) (oi:=?oia1) (v:=?va1) ?hia1 (by kernel_rfl) (by kernel_rfl) (by kernel_rfl) ?hQa1 (Or.inl ⟨?hwa1,?hya1⟩) (by assumption) ?resta1
  case hia1=>(first | (simp only [lz0,lz1,lz2];rfl) | rfl)
  case hQa1=>exact fun _ _ _ h=>h
  case hwa1=>rfl
  case hya1=>((intro w hSw;go_simp);first | done | with_reducible rfl)
  try simp only [Act.put,lz3,lz4,lz5]
  refine wpAnyH_take (i:=2) (oi:=?oia2) (v:=?va2) ?hia2 (by kernel_rfl) (by kernel_rfl) (by kernel_rfl) ?hQa2 (Or.inl ⟨?hwa2,?hya2⟩) (by assumption) ?resta2
  case hia2=>(first | (simp only [lz0,lz1,lz2];rfl) | rfl)
  case hQa2=>exact fun _ _ _ h=>h
  case hwa2=>rfl
  case hya2=>((intro w hSw;go_simp);first | done | with_reducible rfl)
  try simp only [Act.put,lz3,lz4,lz5]
  refine wpAnyH_take (i:=3) (oi:=?oia3) (v:=?va3) ?hia3 (by kernel_rfl) (by kernel_rfl) (by kernel_rfl) ?hQa3 (Or.inl ⟨?hwa3,?hya3⟩) (by assumption) ?resta3
  case hia3=>(first | (simp only [lz0,lz1,lz2];rfl) | rfl)
  case hQa3=>exact fun _ _ _ h=>h
  case hwa3=>rfl
  case hya3=>((intro w hSw;go_simp);first | done | with_reducible rfl)
  try simp only [Act.put,lz3,lz4,lz5]
  refine wpAnyH_take (i:=4) (oi:=?oia4) (v:=?va4) ?hia4 (by kernel_rfl) (by kernel_rfl) (by kernel_rfl) ?hQa4 (Or.inl ⟨?hwa4,?hya4⟩) (by assumption) ?resta4
  case hia4=>(first | (simp only [lz0,lz1,lz2];rfl) | rfl)
  case hQa4=>exact fun _ _ _ h=>h
  case hwa4=>rfl
  case hya4=>((intro w hSw;go_simp);first | done | with_reducible rfl)
  try simp only [Act.put,lz3,lz4,lz5]
  refine wpAnyH_take (i:=5) (oi:=?oia5) (v:=?va5) ?hia5 (by kernel_rfl) (by kernel_rfl) (by kernel_rfl) ?hQa5 (Or.inl ⟨?hwa5,?hya5⟩) (by assumption) ?resta5
  case hia5=>(first | (simp only [lz0,lz1,lz2];rfl) | rfl)
  case hQa5=>exact fun _ _ _ h=>h
  case hwa5=>rfl
  case hya5=>((intro w hSw;go_simp);first | done | with_reducible rfl)
  try simp only [Act.put,lz3,lz4,lz5]
  refine wpAnyH_ready (rs:=[6]) (by kernel_rfl) (by simp) ?_
  refine AllReadyH.cons (o:=?ob) ?hcb ?stb AllReadyH.nil
  case hcb=>(simp only [lz0,lz1,lz2];rfl)
  intro K hK
  go_simp
  refine (joined_any _ F b V (HG4.out.kept (hHeld.1)) i j x y HX.out HY.out (by have:=HXL.out;omega) (by have:=HXL.out;omega) (by have:=HYL.out;omega)).mono ?_
  rintro e w5 ⟨v5,rfl,hO,hB⟩
  obtain ⟨A5,c5,hv⟩:=own_slice hO
  subst hv
  have hb5:Below w4.heap.size w4 w5:=below_then (Below.refl _ w4).drew hB (Nat.le_refl _)
  have hlen:(x++y).length=x.length+y.length:=List.length_append
  have I5:=BytesIn.own hO (by have:=HXL.out;have:=HYL.out;unfold maxLen;omega)
  have s5:∀ w',Below w5.heap.size w5 w'→(convert 24 9 (.slice A5 (x.length+y.length) c5)).run Tryz.prog w'=.ok (.string ⟨(x++y).toArray⟩) w':=fun _ hb=>str_of (I5.below hb) c5
  have l5:∀ w',Below w5.heap.size w5 w'→(Instr.lookup 218 (.map (some bt)) (.string ⟨(x++y).toArray⟩) true).run Tryz.prog w'=.ok (.tuple #[.int .i64 (atTok V.tok (x++y)),.bool (decide (0≤findT V.tok (x++y)))]) w':=fun w' hb=>tok_look (ownsMap_block HT.out ((below_then hb5 hb hb5.size).block _ HT.out.lt)) HIT.out _ (by rw [hlen];have:=HXL.out;have:=HYL.out;unfold maxLen;omega)
  obtain ⟨xy,hxy⟩:∃ xy,xy=x++y:=⟨_,rfl⟩
  rw [← hxy] at s5 l5 HR
  obtain ⟨P,hP⟩:∃ P,P=decide (0≤findT V.tok xy):=⟨_,rfl⟩
  obtain ⟨Q,hQ⟩:∃ Q,Q=atTok V.tok xy:=⟨_,rfl⟩
  rw [← hP,← hQ] at l5
  have hS5:(fun w'=>Below w4.heap.size w4 w'∧w'.cell? ⟨b,2,none⟩=some (.map (some bt))∧w'.cell? ⟨w2.heap.size,0,none⟩=some (.int .i64 (i:Int))∧w'.cell? ⟨w2.heap.size,1,none⟩=some (.int .i64 (j:Int))) w5:=⟨hb5,below_cells hb5 q3,below_cells hb5 q0,below_cells hb5 q1⟩
  have HS5:=Lib.hid hS5
  have r2:=below_cells hb5 q2
  have HB5:=Lib.hid (below_then HB4.out hb5 HB4.out.size)
  have HPP:=Lib.hid hP
  have HQQ:=Lib.hid hQ
  clear hb5 hB hO I5 hlen hxy hP hQ q2 hS5
  go_wp2_with fail
  refine hK.out _ _ HS5.out (fun _=>?_)
  clear hK K
  refine heldMoreV (S':=fun w'=>Below w5.heap.size w5 w'∧(fun w'=>Below w4.heap.size w4 w'∧w'.cell? ⟨b,2,none⟩=some (.map (some bt))∧w'.cell? ⟨w2.heap.size,0,none⟩=some (.int .i64 (i:Int))∧w'.cell? ⟨w2.heap.size,1,none⟩=some (.int .i64 (j:Int))) w') (fun w h=>h.2) _ _ _ _ ?_
  have hHeld2:(fun w'=>Below w5.heap.size w5 w'∧(fun w'=>Below w4.heap.size w4 w'∧w'.cell? ⟨b,2,none⟩=some (.map (some bt))∧w'.cell? ⟨w2.heap.size,0,none⟩=some (.int .i64 (i:Int))∧w'.cell? ⟨w2.heap.size,1,none⟩=some (.int .i64 (j:Int))) w') _:=⟨Below.refl _ _,HS5.out⟩
  try simp only [Act.put,lz3,lz4,lz5]
  refine wpAnyH_take (i:=7) (oi:=?oic7) (v:=?vc7) ?hic7 (by kernel_rfl) (by kernel_rfl) (by kernel_rfl) ?hQc7 (Or.inl ⟨?hwc7,?hyc7⟩) (by assumption) ?restc7
  case hic7=>(first | (simp only [lz0,lz1,lz2];rfl) | rfl)
  case hQc7=>exact fun _ _ _ h=>h
  case hwc7=>rfl
  case hyc7=>((intro w hSw;go_simp);first | done | with_reducible rfl)
  try simp only [Act.put,lz3,lz4,lz5]
  refine wpAnyH_take (i:=8) (oi:=?oic8) (v:=?vc8) ?hic8 (by kernel_rfl) (by kernel_rfl) (by kernel_rfl) ?hQc8 (Or.inl ⟨?hwc8,?hyc8⟩) (by assumption) ?restc8
  case hic8=>(first | (simp only [lz0,lz1,lz2];rfl) | rfl)
  case hQc8=>exact fun _ _ _ h=>h
  case hwc8=>rfl
  case hyc8=>((intro w hSw;go_simp);first | done | with_reducible rfl)
  try simp only [Act.put,lz3,lz4,lz5]
  refine wpAnyH_take (i:=9) (oi:=?oic9) (v:=?vc9) ?hic9 (by kernel_rfl) (by kernel_rfl) (by kernel_rfl) ?hQc9 (Or.inl ⟨?hwc9,?hyc9⟩) (by assumption) ?restc9
  case hic9=>(first | (simp only [lz0,lz1,lz2];rfl) | rfl)
  case hQc9=>exact fun _ _ _ h=>h
  case hwc9=>rfl
  case hyc9=>((intro w hSw;go_simp);first | done | with_reducible rfl)
  try simp only [Act.put,lz3,lz4,lz5]
  refine wpAnyH_take (i:=10) (oi:=?oic10) (v:=?vc10) ?hic10 (by kernel_rfl) (by kernel_rfl) (by kernel_rfl) ?hQc10 (Or.inl ⟨?hwc10,?hyc10⟩) (by assumption) ?restc10
  case hic10=>(first | (simp only [lz0,lz1,lz2];rfl) | rfl)
  case hQc10=>exact fun _ _ _ h=>h
  case hwc10=>rfl
  case hyc10=>((intro w hSw;go_simp);first | done | with_reducible rfl)
  try simp only [Act.put,lz3,lz4,lz5]
  refine wpAnyH_take (i:=11) (oi:=?oic11) (v:=?vc11) ?hic11 (by kernel_rfl) (by kernel_rfl) (by kernel_rfl) ?hQc11 (Or.inl ⟨?hwc11,?hyc11⟩) (by assumption) ?restc11
  case hic11=>(first | (simp only [lz0,lz1,lz2];rfl) | rfl)
  case hQc11=>exact fun _ _ _ h=>h
  case hwc11=>rfl
  case hyc11=>((intro w hSw;go_simp);first | done | with_reducible rfl)
  try simp only [Act.put,lz3,lz4,lz5]
  refine wpAnyH_take (i:=12) (oi:=?oic12) (v:=?vc12) ?hic12 (by kernel_rfl) (by kernel_rfl) (by kernel_rfl) ?hQc12 (Or.inl ⟨?hwc12,?hyc12⟩) (by assumption) ?restc12
  case hic12=>(first | (simp only [lz0,lz1,lz2];rfl) | rfl)
  case hQc12=>exact fun _ _ _ h=>h
  case hwc12=>rfl
  case hyc12=>((intro w hSw;go_simp);first | done | with_reducible rfl)
  try simp only [Act.put,lz3,lz4,lz5]
  refine wpAnyH_take (i:=13) (oi:=?oic13) (v:=?vc13) ?hic13 (by kernel_rfl) (by kernel_rfl) (by kernel_rfl) ?hQc13 (Or.inl ⟨?hwc13,?hyc13⟩) (by assumption) ?restc13
  case hic13=>(first | (simp only [lz0,lz1,lz2];rfl) | rfl)
  case hQc13=>exact fun _ _ _ h=>h
  case hwc13=>rfl
  case hyc13=>((intro w hSw;go_simp);first | done | with_reducible rfl)
  try simp only [Act.put,lz3,lz4,lz5]
  refine wpAnyH_done (by kernel_rfl) ?_ _
  clear hHeld hHeld2 s5 l5
  have hat:Q=if P=true then findT V.tok xy else 0:=by
   rw [HQQ.out,HPP.out]
   unfold atTok
   simp
  have HAT:=Lib.hid hat
  clear hat
  cases hP:P with
  | false=>
   have hfin:R=false:=by rw [HR.out,← HPP.out,hP];rfl
   have HFIN:=Lib.hid hfin
   subst hP
   clear hfin
   go_wp2
   go_ret
   exact ⟨by rw [HFIN.out];rfl,HB5.out⟩
  | true=>
   subst hP
   by_cases hqk:Q=k
   ·have d1:(Q==k)=true:=by simpa using hqk
    have hfin:R=true:=by
     rw [HR.out,← HPP.out,← hqk,HAT.out]
     simp
    have HFIN:=Lib.hid hfin
    clear hfin hqk
    go_wp2
    go_ret
    exact ⟨by rw [HFIN.out];rfl,HB5.out⟩
   ·have d1:(Q==k)=false:=by simpa using hqk
    have hfin:R=false:=by
     rw [HR.out,← HPP.out,Bool.true_and]
     rw [HAT.out,if_pos rfl] at hqk
     exact decide_eq_false hqk
    have HFIN:=Lib.hid hfin
    clear hfin hqk
    go_wp2
    go_ret
    exact ⟨by rw [HFIN.out];rfl,HB5.out⟩
end Go.Proofs.YthcjikpabpgpfaaGreat
