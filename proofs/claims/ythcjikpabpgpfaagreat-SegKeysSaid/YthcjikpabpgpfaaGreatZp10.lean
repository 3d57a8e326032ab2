import Derived.Test.YthcjikpabpgpfaaGreatZp0
import Derived.Test.YthcjikpabpgpfaaGreatZp6
import Derived.Test.YthcjikpabpgpfaaGreatZp2
import Derived.Laws.BitsAllLaws
import Derived.Deep.QuietTactic
import Derived.BigQuiet
import Derived.Test.YthcjikpabpgpfaaGreatZp7
set_option linter.unusedSimpArgs false
set_option maxHeartbeats 16000000
set_option maxRecDepth 100000
namespace Go.Proofs.YthcjikpabpgpfaaGreat
open Go.RowKit Go.Maps Go.WideMaps
theorem and127_8 (c:Nat) (h:c < 256):bits .and .u8 (c:Int) 127=((c % 128:Nat):Int):=by
 have:=u8_and_nat c 127 h (by decide)
 rw [nat_mask7] at this
 exact this
theorem shl_or (acc k c:Nat) (hacc:acc < 2 ^ (7 * k)) (hk:k≤9) (h9:k=9→c % 128≤1):
  bits .or .u64 (acc:Int) (IntKind.u64.wrap ((c:Int) % 128 * 2 ^ (7 * k)))=((acc+c % 128 * 2 ^ (7 * k):Nat):Int):=by
 have hp:2 ^ (7 * k)≤2 ^ 63:=Nat.pow_le_pow_right (by omega) (by omega)
 have hV:c % 128 * 2 ^ (7 * k) < 18446744073709551616:=by
  rcases Nat.lt_or_ge k 9 with h | h
  ·have h1:2 ^ (7 * k)≤2 ^ 56:=Nat.pow_le_pow_right (by omega) (by omega)
   have h2:=Nat.mul_le_mul (show c % 128≤127 by omega) h1
   omega
  ·have h1:=Nat.mul_le_mul_right (2 ^ (7 * k)) (h9 (by omega))
   omega
 have e:IntKind.u64.wrap ((c:Int) % 128 * 2 ^ (7 * k))=((c % 128 * 2 ^ (7 * k):Nat):Int):=by
  have e1:(c:Int) % 128 * 2 ^ (7 * k)=((c % 128 * 2 ^ (7 * k):Nat):Int):=by simp
  rw [e1]
  simp only [IntKind.wrap,IntKind.bits,IntKind.signed]
  generalize c % 128 * 2 ^ (7 * k)=V at hV
  simp
  omega
 rw [e,u64_or_nat acc _ (by omega) hV,Nat.or_comm,nat_join (7 * k) _ acc (Nat.mul_mod_left _ _) hacc,Nat.add_comm]
def gotV (g:Nat×Nat×Int):Value:=.tuple #[.int .u64 g.1,.int .i64 g.2.1,.int .i64 g.2.2]
theorem gaps_snoc (a:List Int) (x:Int):∀ p,gaps p (a++[x])=gaps p a++[(x - a.getLastD p - 1).toNat]:=by
 induction a with
 | nil=>intro p;rfl
 | cons y r ih=>intro p;simp only [List.cons_append,gaps,ih y];cases r <;> rfl
theorem rises_snoc (a:List Int) (x:Int):∀ p,rises p (a++[x])=(rises p a&&decide (a.getLastD p < x)):=by
 induction a with
 | nil=>intro p;simp [rises]
 | cons y r ih=>intro p;simp only [List.cons_append,rises,ih y,Bool.and_assoc];cases r <;> rfl
theorem rises_prefix (a b:List Int):∀ p,rises p (a++b)=true→rises p a=true:=by
 induction a with
 | nil=>intro p _;rfl
 | cons y r ih=>intro p h;simp only [List.cons_append,rises,Bool.and_eq_true] at h ⊢;exact ⟨h.1,ih y h.2⟩
theorem rises_last (a:List Int):∀ p,rises p a=true→p≤a.getLastD p:=by
 induction a with
 | nil=>intro p _;exact Int.le_refl _
 | cons y r ih=>
  intro p h
  simp only [rises,Bool.and_eq_true,decide_eq_true_eq] at h
  have:=ih y h.2
  have e:(y :: r).getLastD p=r.getLastD y:=by cases r <;> rfl
  rw [e]
  omega
theorem take_snoc {α:Type} {l:List α} {k:Nat} {x:α} (h:l[k]?=some x):l.take (k+1)=l.take k++[x]:=by
 rw [List.take_add_one,h]
 rfl
theorem putGaps_snoc (a:List Nat) (x:Nat):putGaps (a++[x])=putGaps a++putL x:=by simp [putGaps]
theorem putGaps_len (a:List Nat) (h:∀ x∈a,x < 2 ^ 64):(putGaps a).length≤10 * a.length:=by
 induction a with
 | nil=>simp [putGaps]
 | cons x r ih=>
  have h1:=putL_len x (h x (List.mem_cons_self ..))
  have h2:=ih fun y hy=>h y (List.mem_cons_of_mem _ hy)
  simp only [putGaps,List.flatMap_cons,List.length_append,List.length_cons] at h2 ⊢
  omega
theorem gaps_lt (l:List Int):∀ p,-1≤p→rises p l=true→(∀ x∈l,x≤9223372036854775807)→∀ g∈gaps p l,g < 2 ^ 64:=by
 induction l with
 | nil=>intro p _ _ _ g hg;simp [gaps] at hg
 | cons x r ih=>
  intro p hp hr hx g hg
  simp only [rises,Bool.and_eq_true,decide_eq_true_eq] at hr
  have hxm:=hx x (List.mem_cons_self ..)
  rcases List.mem_cons.1 hg with rfl | hg
  ·omega
  ·exact ih x (by omega) hr.2 (fun y hy=>hx y (List.mem_cons_of_mem _ hy)) g hg
def putUp (l:List Int) (k:Nat):List UInt8:=putL l.length++putGaps (gaps (-1) (l.take k))
theorem putUp_len {l:List Int} {k:Nat} (hk:k≤l.length) (hr:rises (-1) (l.take k)=true) (hx:∀ x∈l,x≤9223372036854775807) (hl:l.length < 2 ^ 64):(putUp l k).length≤10+10 * k:=by
 have h1:=putL_len l.length hl
 have h2:=putGaps_len _ (gaps_lt (l.take k) (-1) (by omega) hr fun x h=>hx x (List.mem_of_mem_take h))
 rw [gaps_len,List.length_take,Nat.min_eq_left hk] at h2
 simp only [putUp,List.length_append]
 omega
def PutROut (w:World) (l:List Int) (e:Ending) (w':World):Prop:=
 ∃ v n,e=.returned (.tuple #[v,.int .i64 n])∧Below w.heap.size w w'∧((rises (-1) l=true∧n=0∧w'.ownsRow w.heap.size 5 1 v (putR l).length ((putR l).map byteV))∨(rises (-1) l=false∧n=1∧v=.slice none 0 0))
theorem intInfo64:(Tryz.prog.info? 2).map (fun i=>(i.zero,i.size,i.bytes))=some (some (.int .i64 0),1,8):=by kernel_rfl
def GetROut (w:World) (g:List Int×Nat×Int) (e:Ending) (w':World):Prop:=
 ∃ v,e=.returned (.tuple #[v,.int .i64 g.2.1,.int .i64 g.2.2])∧Below w.heap.size w w'∧w'.ownsRow w.heap.size 2 1 v g.1.length (g.1.map i64V)
theorem gerr {w w':World} {g:List Int×Nat×Int} {e:Int} (h:g=([],0,e)) (hb:Below w.heap.size w w'):GetROut w g (.returned (.tuple #[.slice none 0 0,.int .i64 0,.int .i64 e])) w':=by
 subst h
 exact ⟨_,rfl,hb,⟨rfl,.inl ⟨rfl,rfl⟩⟩⟩
theorem gok {w w':World} {g:List Int×Nat×Int} {l:List Int} {k:Nat} {v:Value} (h:g=(l,k,0)) (hb:Below w.heap.size w w') (ho:w'.ownsRow w.heap.size 2 1 v l.length (l.map i64V)):GetROut w g (.returned (.tuple #[v,.int .i64 k,.int .i64 0])) w':=by
 subst h
 exact ⟨_,rfl,hb,ho⟩
theorem inv_u32 (s:Nat) (h:s < 4294967296):bits .xor .u32 IntKind.u32.max (s:Int)=((all1 ^^^ s:Nat):Int):=u32_xor_nat 4294967295 s (by decide) h
theorem reg_snoc {l:Nm} {k:Nat} {x:UInt8} (r:Nat) (h:l[k]?=some x):reg r (l.take (k+1))=step (reg r (l.take k)) x:=by
 rw [List.take_add_one,h]
 simp only [Option.toList,reg_append]
 rfl
def GetFOut (w:World) (g:List UInt8×Nat×Int) (e:Ending) (w':World):Prop:=
 ∃ v,e=.returned (.tuple #[v,.int .i64 g.2.1,.int .i64 g.2.2])∧w'.ownsRow w.heap.size 5 1 v g.1.length (g.1.map byteV)∧Below w.heap.size w w'
theorem gferr {w w':World} {g:List UInt8×Nat×Int} {e:Int} (h:g=([],0,e)) (hb:Below w.heap.size w w'):GetFOut w g (.returned (.tuple #[.slice none 0 0,.int .i64 0,.int .i64 e])) w':=by
 subst h
 exact ⟨_,rfl,⟨rfl,.inl ⟨rfl,rfl⟩⟩,hb⟩
theorem gfok {w w':World} {g:List UInt8×Nat×Int} {x:List UInt8} {m:Nat} {v:Value} (h:g=(x,m,0)) (hb:Below w.heap.size w w') (ho:w'.ownsRow w.heap.size 5 1 v x.length (x.map byteV)):GetFOut w g (.returned (.tuple #[v,.int .i64 m,.int .i64 0])) w':=by
 subst h
 exact ⟨v,rfl,ho,hb⟩
theorem or128_8 (m:Nat) (h:m < 256):bits .or .u8 (m:Int) 128=((m % 128+128:Nat):Int):=by
 have h1:=u8_or_nat m 128 h (by decide)
 have h2:∀ m:Fin 256,m.val ||| 128=m.val % 128+128:=by decide +kernel
 rw [h2 ⟨m,h⟩] at h1
 exact h1
theorem lAdd_any (w:World) (base:Nat) (hbase:base≤w.heap.size) (v0:Value) (ys:Nm) (hy:ys.length≤70368744177664) (h0:w.ownsRow base 5 1 v0 ys.length (ys.map byteV)) (n:Nat) (hn:n < 18446744073709551616):
  Calls Tryz.prog 128 #[v0,.int .u64 n] w fun e w'=>∃ v,e=.returned v∧w'.ownsRow base 5 1 v (ys++putL n).length ((ys++putL n).map byteV)∧Below base w w':=by
 obtain ⟨i0,hi,hz0,hz1,hz2⟩:=info_parts byteInfo
 have H0:=Lib.hid h0
 obtain ⟨Z,hZ⟩:∃ Z,Z=ys++putL n:=⟨_,rfl⟩
 rw [← hZ]
 have HZ:=Lib.hid hZ
 clear h0 hZ
 go_enter Tryz.func128,Tryz.ntmps128
 go_wp2
 go_loopw [0,1] (fun v s wr=>∃ (m:Nat) (xs:Nm),s=.int .u64 m∧m≤n∧xs++putL m=Z∧Below base w wr∧wr.ownsRow base 5 1 v xs.length (xs.map byteV)) (fun _ s _=>(intOf s).toNat)
 case atStart=>exact ⟨n,ys,rfl,Nat.le_refl _,HZ.out.symm,Below.refl _ _,H0.out⟩
 case round=>
  obtain ⟨m,xs,rfl,hm,hx,hB,hO⟩:=hrel
  have HX:=Lib.hid hx
  have HB:=Lib.hid hB
  have HO:=Lib.hid hO
  have hsb:base≤wr.heap.size:=Nat.le_trans hbase hB.size
  clear hx hB hO
  have hlen:xs.length≤ys.length+10:=by
   have h1:=putL_len n (by omega)
   have h2:=congrArg List.length (HX.out.trans HZ.out)
   simp only [List.length_append] at h2
   omega
  obtain ⟨Av,cv,hv⟩:=own_slice HO.out
  subst hv
  rcases Nat.lt_or_ge m 128 with hs | hb
  ·have hsz:¬ (m:Int) ≥ 128:=by omega
   obtain ⟨x,rfl⟩:∃ x:UInt8,m=x.toNat:=⟨UInt8.ofNat m,(ofNat_toNat (by omega)).symm⟩
   have hmz:(x.toNat:Int) % 256=(x.toNat:Int):=by omega
   have hfin:Z=xs++[x]:=by rw [← HX.out,putL_small hs];simp
   have HF:=Lib.hid hfin
   clear hfin
   go_wp2_with (at_builtin;refine wpList_append_src _ rfl (.tmp 15) (.tmp 18) 24 rfl base 5 i0 (.int .u8 0) 1 Tryz.underlying24 hi hz0 hz1 hz2 rfl _ xs.length _ rfl (own_alloc HO.out _) _ 1 1 _ rfl (one_src wr x) (u8_one [x]) (by unfold maxLen;omega) (by omega) (by simp;omega) ?_;intro v w2 hown hgrow _;have HO2:=Lib.hid hown;have HB2:=Lib.hid ((HB.out.alloc hsb _).grown hgrow (by simp;omega) (fun g hg=>(HO.out.lt g hg).1));clear hown hgrow)
   go_ret
   refine ⟨_,rfl,?_,HB2.out⟩
   rw [HF.out,List.length_append,List.map_append]
   exact HO2.out
  ·have hbz:(m:Int) ≥ 128:=by omega
   obtain ⟨q,hq⟩:∃ q,q=m % 256:=⟨_,rfl⟩
   have h1:(m:Int) % 256=(q:Int):=by omega
   obtain ⟨x,hxq⟩:∃ x,x=UInt8.ofNat (q % 128+128):=⟨_,rfl⟩
   have h2:bits .or .u8 (q:Int) 128=(x.toNat:Int):=by
    rw [or128_8 q (by omega),hxq,ofNat_toNat (by omega)]
   have hnx:(xs++[x])++putL (m / 128)=Z:=by
    rw [← HX.out,putL_big (n:=m) (by omega),hxq,hq,List.append_assoc,show m % 256 % 128=m % 128 by omega]
    rfl
   have HN:=Lib.hid hnx
   clear hnx hxq hq
   go_wp2_with (at_builtin;refine wpList_append_src _ rfl (.tmp 9) (.tmp 13) 24 rfl base 5 i0 (.int .u8 0) 1 Tryz.underlying24 hi hz0 hz1 hz2 rfl _ xs.length _ rfl (own_alloc HO.out _) _ 1 1 _ rfl (one_src wr x) (u8_one [x]) (by unfold maxLen;omega) (by omega) (by simp;omega) ?_;intro v w2 hown hgrow _)
   have HO2:=Lib.hid hown
   have HB2:=Lib.hid ((HB.out.alloc hsb _).grown hgrow (by simp;omega) (fun g hg=>(HO.out.lt g hg).1))
   clear hown hgrow
   refine ⟨⟨m / 128,xs++[x],by go_num,by omega,HN.out,HB2.out,?_⟩,?_⟩
   ·rw [List.length_append,List.map_append]
    exact HO2.out
   ·simp [intOf]
    omega
theorem lPut_any (w:World) (n:Nat) (hn:n < 18446744073709551616):
  Calls Tryz.prog 77 #[.int .u64 n] w fun e w'=>∃ v,e=.returned v∧w'.ownsRow w.heap.size 5 1 v (putL n).length ((putL n).map byteV)∧Below w.heap.size w w':=by
 go_enter Tryz.func77,Tryz.ntmps77
 go_wp2_with fail
 refine (lAdd_any w w.heap.size (Nat.le_refl _) (.slice none 0 0) [] (by simp) ⟨rfl,.inl ⟨rfl,rfl⟩⟩ n hn).mono ?_
 rintro e w1 ⟨v,rfl,hO,hB⟩
 have HO:=Lib.hid hO
 have HB:=Lib.hid hB
 clear hO hB
 go_wp2
 go_ret
 exact ⟨v,rfl,by simpa using HO.out,HB.out⟩
theorem lGet_any (w:World) (A:Option Addr) (n c:Nat) (l:Nm) (hl:BytesIn w A n l):
  Calls Tryz.prog 148 #[.slice A n c] w fun e w'=>e=.returned (gotV (getL l))∧w'=w:=by
 have HL:=Lib.hid hl
 have hln:l.length=n:=by have:=hl.2.1.len;simpa using this
 have HLN:=Lib.hid hln
 clear hl hln
 have hn63:n≤9223372036854775807:=HL.out.1
 go_enter Tryz.func148,Tryz.ntmps148
 go_wp2
 go_loop [5,10] (fun a i=>∃ acc k:Nat,k≤9∧a=.int .u64 acc∧i=.int .i64 k∧acc < 2 ^ (7 * k)∧k≤n∧getAux k acc (l.drop k)=getL l) (fun _ i=>10 - (intOf i).toNat)
 case atStart=>exact ⟨0,0,by omega,rfl,rfl,by omega,by omega,rfl⟩
 case round=>
  obtain ⟨acc,k,hk,rfl,rfl,hacc,hkn,hg⟩:=hrel
  have HG:=Lib.hid hg
  have HACC:=Lib.hid hacc
  clear hg hacc
  rcases Nat.lt_or_ge k n with hlt | hge
  ·have hlt':(k:Int) < (n:Int):=by omega
   obtain ⟨ad,x,rfl,hx,hcx⟩:=HL.out.at k hlt
   have hx8:=x.toNat_lt
   have HX:=Lib.hid hx
   clear hx
   have a1:=and127_8 x.toNat (by omega)
   have hdrop:l.drop k=x :: l.drop (k+1):=by
    obtain ⟨h1,h2⟩:=List.getElem?_eq_some_iff.1 HX.out
    rw [← h2,List.getElem_cons_drop]
   have HD:=Lib.hid hdrop
   clear hdrop
   by_cases hbad:(k=9∧1 < x.toNat)∨(x.toNat=0∧0 < k)
   ·have hend:getL l=(0,0,32):=by
     rw [← HG.out,HD.out]
     simp only [getAux]
     rw [if_pos hbad]
    rw [hend]
    rcases hbad with ⟨h9,h1⟩ | ⟨h1,h2⟩
    ·have h9b:((k:Int)==9)=true:=by rw [h9];rfl
     have h1z:(1:Int) < (x.toNat:Int):=by omega
     clear h9
     go_wp2
     go_ret3
     exact ⟨rfl,rfl⟩
    ·have h1b:((x.toNat:Int)==0)=true:=by rw [h1];rfl
     have h1z:¬ (1:Int) < (x.toNat:Int):=by omega
     have h2z:(0:Int) < (k:Int):=by omega
     clear h1
     by_cases h9:k=9
     ·have h9b:((k:Int)==9)=true:=by rw [h9];rfl
      clear h9
      go_wp2
      go_ret3
      exact ⟨rfl,rfl⟩
     ·have h9b:((k:Int)==9)=false:=by simp;omega
      go_wp2
      go_ret3
      exact ⟨rfl,rfl⟩
   ·have h91:k=9→x.toNat≤1:=fun e=>by
     rcases Nat.lt_or_ge 1 x.toNat with h | h
     ·exact absurd (Or.inl ⟨e,h⟩) hbad
     ·exact h
    have h0k:0 < k→0 < x.toNat:=fun e=>by
     rcases Nat.eq_zero_or_pos x.toNat with h | h
     ·exact absurd (Or.inr ⟨h,e⟩) hbad
     ·exact h
    have hsh:=shl_or acc k x.toNat HACC.out hk (fun e=>by have:=h91 e;omega)
    obtain ⟨acc',hacc'⟩:∃ a,a=acc+x.toNat % 128 * 2 ^ (7 * k):=⟨_,rfl⟩
    rw [← hacc'] at hsh
    have HA:=Lib.hid hacc'
    have HBAD:=Lib.hid hbad
    have H91:=Lib.hid h91
    have H0K:=Lib.hid h0k
    clear hacc' hbad h91 h0k
    have hres:x.toNat < 128→getL l=(acc',k+1,0):=fun hs=>by
     rw [← HG.out,HD.out]
     simp only [getAux]
     rw [if_neg HBAD.out,if_pos hs,HA.out]
    have hnext:128≤x.toNat→acc' < 2 ^ (7 * (k+1))∧getAux (k+1) acc' (l.drop (k+1))=getL l∧k+1≤9:=fun hs=>by
     refine ⟨?_,?_,?_⟩
     ·rw [HA.out,pow7]
      have h1:=HACC.out
      have h2:x.toNat % 128+1≤128:=by omega
      have h3:=Nat.mul_le_mul_right (2 ^ (7 * k)) h2
      rw [Nat.add_mul] at h3
      omega
     ·rw [← HG.out,HD.out]
      simp only [getAux]
      rw [if_neg HBAD.out,if_neg (by omega),HA.out]
     ·rcases Nat.lt_or_ge k 9 with h | h
      ·exact h
      ·have:=H91.out (by omega)
       omega
    have HRES:=Lib.hid hres
    have HNX:=Lib.hid hnext
    clear hres hnext
    have fin1:∀ hs:x.toNat < 128,Ending.returned (.tuple #[.int .u64 acc',.int .i64 ((k:Int)+1),.int .i64 0])=.returned (gotV (getL l)):=fun hs=>by
     rw [HRES.out hs]
     rfl
    have HF:=Lib.hid fin1
    clear fin1
    by_cases h9:k=9
    ·have h9b:((k:Int)==9)=true:=by rw [h9];rfl
     have h1z:¬ (1:Int) < (x.toNat:Int):=by have:=H91.out h9;omega
     have hk0z:(0:Int) < (k:Int):=by omega
     have hc0:((x.toNat:Int)==0)=false:=by have:=H0K.out (by omega);simp;omega
     have hs:x.toNat < 128:=by have:=H91.out h9;omega
     have hsz:(x.toNat:Int) < 128:=by omega
     clear h9
     go_wp2
     go_ret3
     exact ⟨HF.out hs,rfl⟩
    ·have h9b:((k:Int)==9)=false:=by simp;omega
     by_cases hk0:k=0
     ·have hk0z:¬ (0:Int) < (k:Int):=by omega
      clear hk0
      rcases Nat.lt_or_ge x.toNat 128 with hs | hs
      ·have hsz:(x.toNat:Int) < 128:=by omega
       go_wp2
       go_ret3
       exact ⟨HF.out hs,rfl⟩
      ·have hsz:¬ (x.toNat:Int) < 128:=by omega
       obtain ⟨n1,n2,n3⟩:=HNX.out hs
       have N1:=Lib.hid n1
       have N2:=Lib.hid n2
       clear n1 n2
       go_wp2
       exact ⟨⟨acc',k+1,n3,rfl,by go_num,N1.out,by omega,N2.out⟩,by simp [intOf];omega⟩
     ·have hk0z:(0:Int) < (k:Int):=by omega
      have hc0:((x.toNat:Int)==0)=false:=by have:=H0K.out (by omega);simp;omega
      rcases Nat.lt_or_ge x.toNat 128 with hs | hs
      ·have hsz:(x.toNat:Int) < 128:=by omega
       go_wp2
       go_ret3
       exact ⟨HF.out hs,rfl⟩
      ·have hsz:¬ (x.toNat:Int) < 128:=by omega
       obtain ⟨n1,n2,n3⟩:=HNX.out hs
       have N1:=Lib.hid n1
       have N2:=Lib.hid n2
       clear n1 n2
       go_wp2
       exact ⟨⟨acc',k+1,n3,rfl,by go_num,N1.out,by omega,N2.out⟩,by simp [intOf];omega⟩
  ·have hlt':¬ (k:Int) < (n:Int):=by omega
   have hend:getL l=(0,0,31):=by rw [← HG.out,List.drop_of_length_le (by rw [HLN.out];exact hge)];rfl
   rw [hend]
   go_wp2
   go_ret3
   exact ⟨rfl,rfl⟩
theorem lGet_is (w:World) (A:Option Addr) (n c:Nat) (l:Nm) (hl:BytesIn w A n l) {v j:Nat} {e:Int} (hg:getL l=(v,j,e)):
  Calls Tryz.prog 148 #[.slice A n c] w fun e2 w'=>e2=.returned (.tuple #[.int .u64 v,.int .i64 j,.int .i64 e])∧w'=w:=by
 have h:=lGet_any w A n c l hl
 rw [hg] at h
 exact h
theorem tab_size:tabCells.size=256:=by simp [tabCells]
theorem tab_one:tabCells.all (·.oneCell')=true:=by
 rw [Array.all_eq_true_iff_forall_mem]
 intro v hv
 simp only [tabCells,Array.mem_map] at hv
 obtain ⟨j,_,rfl⟩:=hv
 rfl
theorem tab_at (j:Nat) (hj:j < 256):tabCells[j]?=some (.int .u32 (s8 j)):=by simp [tabCells,hj,u32v]
theorem more_any (w:World) (s:Nat) (hs:s < 4294967296) (A:Option Addr) (n c:Nat) (l:Nm) (hl:BytesIn w A n l):
  Calls Tryz.prog 171 #[.int .u32 s,.slice A n c] w fun e w'=>e=.returned (.int .u32 (moreN s l))∧Below w.heap.size w w':=by
 obtain ⟨hz,hi⟩:=zero_of_info tabInfo
 have hsc:∀ w:World,(storeCells ⟨w.heap.size,0,none⟩ tabCells.toList 0).run Tryz.prog (w.alloc (.cells zeros 281))=.ok () (w.alloc (.cells tabCells 281)):=fun w=>
  run_storeCells_new w 281 zeros tabCells (by rw [tab_size];exact hi) (by rw [tab_size];simp [zeros]) tab_one
 have hsz:=tab_size
 have hinv:=inv_u32 s hs
 have hsg:IntKind.u32.signed=false:=rfl
 clear hi
 have HL:=Lib.hid hl
 clear hl
 go_enter Tryz.func171,Tryz.ntmps171
 go_wp2_with fail
 refine (table_any w).mono ?_
 rintro e w1 ⟨rfl,hb⟩
 have HB:=Lib.hid hb
 clear hb
 go_wp2
 have HZ:=Lib.hid hz
 clear hz hsc hinv
 have HT:Hid (∀ j,j < 256→(w1.alloc (.cells tabCells 281)).cell? ⟨w1.heap.size,j,none⟩=some (.int .u32 (s8 j))):=Lib.hid fun j hj=>((Blk.new w1 281 tabCells).cell j).trans (tab_at j hj)
 have HS:Hid (Src (w1.alloc (.cells tabCells 281)) A n (l.map byteV)):=Lib.hid (HL.out.2.1.keep fun ad e hn=>by
  have h0:=HL.out.2.2 ad e hn
  have h1:=HB.out.size
  rw [Below.heap_alloc _ _ _ (by omega)]
  exact HB.out.block _ h0)
 have hr0:all1 ^^^ s < 4294967296:=inv_lt hs
 have hln:l.length=n:=by have:=HL.out.2.1.len;simpa using this
 have HLN:=Lib.hid hln
 clear hln
 go_loop [6,14] (fun r i=>∃ k:Nat,k≤n∧i=.int .i64 k∧r=.int .u32 (reg (all1 ^^^ s) (l.take k))) (fun _ i=>n - (intOf i).toNat)
 case atStart=>exact ⟨0,by omega,rfl,by simp [reg]⟩
 case round=>
  obtain ⟨k,hk,rfl,rfl⟩:=hrel
  rcases Nat.lt_or_ge k n with hlt | hge
  ·have hlt':(k:Int) < (n:Int):=by omega
   have hn63:n≤9223372036854775807:=HL.out.1
   obtain ⟨ad,hA⟩:∃ ad,A=some ad:=by
    cases hA:A with
    | none=>have:=HS.out.nil hA;omega
    | some ad=>exact ⟨ad,rfl⟩
   subst hA
   obtain ⟨x,hx⟩:∃ x,l[k]?=some x:=⟨l[k]'(by rw [HLN.out];exact hlt),List.getElem?_eq_getElem _⟩
   have hcx:=HS.out.cells ad rfl k (byteV x) (by rw [List.getElem?_map,hx];rfl)
   unfold byteV at hcx
   obtain ⟨R,hR⟩:∃ R,R=reg (all1 ^^^ s) (l.take k):=⟨_,rfl⟩
   have hR32:R < 4294967296:=by rw [hR];exact reg_lt hr0 _
   rw [← hR]
   have hx8:=x.toNat_lt
   obtain ⟨J,hJ⟩:∃ J:Nat,J=(R % 256) ^^^ x.toNat:=⟨_,rfl⟩
   have hj:J < 256:=by rw [hJ];exact xor_lt8 (by omega) (by omega)
   have hjz:(J:Int) < 256:=by omega
   have hxi:bits .xor .u8 ((R:Int) % 256) (x.toNat:Int)=(J:Int):=by
    rw [show (R:Int) % 256=((R % 256:Nat):Int) by omega,u8_xor_nat _ _ (by omega) (by omega),← hJ]
   have ht:=HT.out _ hj
   have hxo:bits .xor .u32 ((R:Int) / 256) ((s8 J:Nat):Int)=((step R x:Nat):Int):=by
    rw [show (R:Int) / 256=((R / 256:Nat):Int) by omega,u32_xor_nat _ _ (by omega) (s8_lt (by omega)),step_tab,hJ]
   have HJ:=Lib.hid hJ
   clear hJ
   have HR:=Lib.hid hR
   have HX:=Lib.hid hx
   clear hR hx
   obtain ⟨blk,off,sp⟩:=ad
   go_wp2
   go_round
   case rel=>
    refine ⟨k+1,by omega,by go_num,?_⟩
    rw [reg_snoc _ HX.out,← HR.out]
   case measure=>simp [intOf];omega
  ·obtain rfl:k=n:=by omega
   have hlz:¬ ((k:Int) < (k:Int)):=by omega
   have hrl:l.take k=l:=List.take_of_length_le (by rw [HLN.out];exact Nat.le_refl _)
   rw [hrl]
   have hinv2:=inv_u32 (reg (all1 ^^^ s) l) (reg_lt hr0 l)
   clear hrl
   go_wp2
   go_ret
   exact ⟨rfl,HB.out.alloc HB.out.size _⟩
theorem sum_any (w:World) (A:Option Addr) (n c:Nat) (l:Nm) (hl:BytesIn w A n l):
  Calls Tryz.prog 129 #[.slice A n c] w fun e w'=>e=.returned (.int .u32 (sumN l))∧Below w.heap.size w w':=by
 have HL:=Lib.hid hl
 clear hl
 go_enter Tryz.func129,Tryz.ntmps129
 go_wp2_with fail
 refine (more_any w 0 (by decide) A n c l HL.out).mono ?_
 rintro e w' ⟨rfl,hb⟩
 have HB:=Lib.hid hb
 clear hb
 go_wp2
 go_ret
 exact ⟨rfl,HB.out⟩
theorem BytesIn.keep {w w':World} {A:Option Addr} {n:Nat} {l:Nm} (h:BytesIn w A n l) {F:Nat→Prop} (hk:Kept F w w') (ha:∀ ad,A=some ad→0 < n→¬ F ad.block):BytesIn w' A n l:=
 ⟨h.1,h.2.1.keep fun ad e h0=>hk.block _ (h.2.2 ad e h0) (ha ad e h0),fun ad e h0=>Nat.lt_of_lt_of_le (h.2.2 ad e h0) hk.size⟩
end Go.Proofs.YthcjikpabpgpfaaGreat
