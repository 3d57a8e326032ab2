import Derived.Test.YthcjikpabpgpfaaGreatZp0
import Derived.Test.YthcjikpabpgpfaaGreatZp20
set_option linter.unusedSimpArgs false
set_option maxHeartbeats 16000000
set_option maxRecDepth 100000
namespace Go.Proofs.YthcjikpabpgpfaaGreat
open Go.RowKit Go.Maps Go.WideMaps Go.Shelf
def bytesRes (l:Nm) (n:Int):List UInt8×Nat×Int:=if (l.length:Int) < n then ([],0,31) else (l.take n.toNat,n.toNat,0)
theorem rBytes_eq {s:Rd} (hs:s.e=0) (hok:s.Ok) {n:Int} (hn:¬ n≤0):rBytes s n=((bytesRes (rRest s) n).1,if (bytesRes (rRest s) n).2.2≠0 then { s with e:=(bytesRes (rRest s) n).2.2 } else { s with p:=s.p+(bytesRes (rRest s) n).2.1 }):=by
 have hp:=hok.place
 unfold rBytes bytesRes
 rw [if_neg (by rintro (h | h) <;> contradiction),rRest_ok hs]
 have e:((s.bs.drop s.p).length:Int)=(s.bs.length:Int) - s.p:=by rw [List.length_drop];omega
 rw [e]
 by_cases h:(s.bs.length:Int) - s.p < n
 ·rw [if_pos h,if_pos h,if_pos (show (31:Int)≠0 by decide)]
 ·rw [if_neg h,if_neg h,if_neg (show ¬ (0:Int)≠0 by decide)]
theorem lBytes1_any (w:World) (A:Option Addr) (k c:Nat) (l:Nm) (hl:BytesIn w A k l) (hkc:k≤c) (hkl:k≤1099511627776) (m f:Nat) (n:Int) (h0:¬ n≤0) (hm:Blk w m 3 #[.int .i64 n]) (hf:Blk w f 24 #[.slice none 0 0]) (hmf:m≠f):
  Calls Tryz.prog 175 #[.slice A k c,at0 m,at0 f] w fun e w1=>e=.returned (.tuple #[.int .i64 ((bytesRes l n).2.1:Nat),.int .i64 (bytesRes l n).2.2])∧(∃ v,Blk w1 f 24 #[v]∧w1.ownsRow w.heap.size 5 1 v (bytesRes l n).1.length ((bytesRes l n).1.map byteV))∧Kept (fun i=>i=f) w w1∧((bytesRes l n).2.2=0→(bytesRes l n).2.1≤k):=by
 have HL:=Lib.hid hl
 have hln:l.length=k:=by have:=hl.2.1.len;simpa using this
 have HLN:=Lib.hid hln
 have HF:=Lib.hid hf
 have HM:=Lib.hid hm
 have hfl:=hf.lt
 have hml:=hm.lt
 have c0:=hm.cell 0
 have z0:=hf.frozen 0
 simp at c0
 obtain ⟨r,hr⟩:∃ r,r=bytesRes l n:=⟨_,rfl⟩
 rw [← hr]
 unfold bytesRes at hr
 rw [hln] at hr
 clear hl hln hm hf
 unfold at0
 by_cases hlt:(k:Int) < n
 ·rw [if_pos hlt] at hr
  have HRR:=Lib.hid hr
  clear hr
  go_enter Tryz.func175,Tryz.ntmps175
  go_wp2
  go_ret2
  rw [HRR.out]
  exact ⟨rfl,⟨_,HF.out,⟨rfl,.inl ⟨rfl,rfl⟩⟩⟩,Kept.refl _ _,fun _=>Nat.zero_le _⟩
 ·rw [if_neg hlt] at hr
  obtain ⟨N,rfl⟩:∃ N:Nat,n=N:=⟨n.toNat,by omega⟩
  rw [Int.toNat_natCast] at hr
  have hNk:N≤k:=by omega
  have HRR:=Lib.hid hr
  clear hr
  have s1:∀ w,(Instr.slice 24 (.slice A k c) none (some (.int .i64 N)) none).run Tryz.prog w=.ok (.slice A N c) w:=fun w=>slice_to w A k c N (by omega)
  go_enter Tryz.func175,Tryz.ntmps175
  go_wp2_with fail
  refine (clone_any w A N c (l.take N) (HL.out.upto N hNk) (by omega)).mono ?_
  rintro e w1 ⟨v,rfl,hO,hB⟩
  obtain ⟨A2,c2,hv⟩:=own_slice hO
  subst hv
  have HO:=Lib.hid hO
  have HB:=Lib.hid hB
  have m1:=HM.out.below hB hml
  have f1:=HF.out.below hB hfl
  have k0:=m1.cell 0
  have y0:=f1.frozen 0
  have f0:=f1.cell 0
  simp at k0 f0
  have HF1:=Lib.hid f1
  have j0:(w1.setCell ⟨f,0,none⟩ (.slice A2 N c2)).cell? ⟨m,0,none⟩=some (.int .i64 N):=by
   rw [(m1.far (p:=⟨f,0,none⟩) hmf (.slice A2 N c2)).cell 0]
   rfl
  clear hO hB m1 f1 c0 z0
  go_wp2
  go_ret2
  rw [HRR.out]
  have hlen:(l.take N).length=N:=by rw [List.length_take,HLN.out];omega
  refine ⟨rfl,⟨.slice A2 N c2,by simpa using HF1.out.set_ 0 (.slice A2 N c2),?_⟩,(Kept.below (F:=fun i=>i=f) HB.out).setCell (.inl rfl) _,fun _=>hNk⟩
  show World.ownsRow _ _ _ _ _ (l.take N).length _
  rw [hlen]
  exact ownsRow_block HO.out fun g hg=>heap_setCell_other _ _ _ fun e=>by
   have:=(HO.out.lt g hg).1
   simp at e
   omega
def LBytesOut (w:World) (b:Nat) (g:Nat→Prop) (r:List UInt8×Rd) (e:Ending) (w':World):Prop:=
 ∃ v,e=.returned v∧w'.ownsRow w.heap.size 5 1 v r.1.length (r.1.map byteV)∧IsR w' b g r.2∧Kept (fun i=>i=b) w w'
theorem lBytes_any (w:World) (b:Nat) (g:Nat→Prop) (s:Rd) (hR:IsR w b g s) (n:Int) (hm1:-9223372036854775808≤n) (hm2:n≤9223372036854775807):
  Calls Tryz.prog 152 #[at0 b,.int .i64 n] w (LBytesOut w b g (rBytes s n)):=by
 have HR:=Lib.hid hR
 have hbl:b < w.heap.size:=by obtain ⟨A,c,h1,_⟩:=hR.at_;exact h1.lt
 clear hR
 unfold at0
 by_cases hn:n≤0
 ·have hres:rBytes s n=([],s):=by unfold rBytes;rw [if_pos (.inr hn)]
  rw [hres]
  clear hres
  go_enter Tryz.func152,Tryz.ntmps152
  go_wp2
  go_ret
  have hWk:Kept (fun _=>False) w (w.alloc (.cells #[.int .i64 n] 3)):=(Kept.refl _ w).alloc _
  exact ⟨_,rfl,⟨rfl,.inl ⟨rfl,rfl⟩⟩,HR.out.kept hWk (fun h=>h) (fun _ _ h=>h),hWk.mono (fun _ h=>h.elim)⟩
 have HN:=Lib.hid hn
 go_enter Tryz.func152,Tryz.ntmps152
 go_wp2_with fail
 refine calls_at ?_
 intro W hW
 have hWk:Kept (fun _=>False) w W:=by rw [hW];exact ((Kept.refl _ w).alloc _).alloc _
 have hb1:Blk W w.heap.size 3 #[.int .i64 n]:=by rw [hW];exact (Blk.new _ _ _).alloc _
 have hb2:Blk W (w.heap.size+1) 24 #[.slice none 0 0]:=by rw [hW];have:=Blk.new (w.alloc (.cells #[.int .i64 n] 3)) 24 #[.slice none 0 0];simpa using this
 have hR2:=HR.out.kept hWk (fun h=>h) (fun _ _ h=>h)
 have hWs:=hWk.size
 have hfit:=HR.out.fit
 clear hW
 refine (lRead_any 175 #[at0 w.heap.size,at0 (w.heap.size+1)] (enters_of Tryz.func175 (by kernel_rfl) rfl) W b g s hR2 (fun i=>i=w.heap.size+1) (by omega) (fun i hi e=>by have:=HR.out.lt i hi;omega) (fun k er w1=>s.e=0∧(∃ v,Blk w1 (w.heap.size+1) 24 #[v]∧w1.ownsRow W.heap.size 5 1 v (bytesRes (rRest s) n).1.length ((bytesRes (rRest s) n).1.map byteV))∧k=(bytesRes (rRest s) n).2.1∧er=(bytesRes (rRest s) n).2.2) ?_).mono ?_
 ·intro hs A c h1 h2
  have hl:(rRest s).length≤1099511627776:=by rw [rRest_ok hs,List.length_drop];omega
  refine (lBytes1_any W A _ c (rRest s) h1 h2 hl w.heap.size (w.heap.size+1) n (by have:=HN.out;omega) hb1 hb2 (by omega)).mono ?_
  rintro e w1 ⟨rfl,h3,h4,h5⟩
  exact ⟨_,_,rfl,⟨hs,h3,rfl,rfl⟩,h4,h5⟩
 ·rintro e w' ⟨rfl,h⟩
  have hres:∃ r:List UInt8×Rd,r=rBytes s n∧(∃ v,Blk w' (w.heap.size+1) 24 #[v]∧w'.ownsRow W.heap.size 5 1 v r.1.length (r.1.map byteV))∧IsR w' b g r.2∧Kept (fun i=>i=b) w w':=by
   rcases h with ⟨hs,rfl⟩ | ⟨hs,k,er,w1,⟨_,⟨v,h1,h1o⟩,rfl,rfl⟩,h2,h3,h4⟩
   ·refine ⟨([],s),?_,⟨_,hb2,⟨rfl,.inl ⟨rfl,rfl⟩⟩⟩,hR2,hWk.mono (fun _ h=>h.elim)⟩
    unfold rBytes
    rw [if_pos (.inl hs)]
   ·refine ⟨((bytesRes (rRest s) n).1,if (bytesRes (rRest s) n).2.2≠0 then { s with e:=(bytesRes (rRest s) n).2.2 } else { s with p:=s.p+(bytesRes (rRest s) n).2.1 }),?_,⟨v,h1.kept h3 (by omega),?_⟩,h4,(Kept.trans (F:=fun i=>i=b) (hWk.mono (fun _ h=>h.elim)) h2 ?_).trans h3 (fun i _ h=>h)⟩
    ·exact (rBytes_eq hs HR.out.ok (n:=n) (by have:=HN.out;omega)).symm
    ·exact ownsRow_kept h1o h3 (fun g' hg' e=>by have:=(h1o.lt g' hg').1;omega)
    ·intro i hi h;omega
  obtain ⟨r,hr,⟨v,hf,ho⟩,hR3,hk3⟩:=hres
  have HRR:=Lib.hid hr
  have f0:=hf.cell 0
  simp at f0
  have HR3:=Lib.hid hR3
  have HK3:=Lib.hid hk3
  have HO:=Lib.hid ho
  clear hr hf hR3 hk3 h hb1 hb2 hR2 hWk ho
  go_wp2
  go_ret
  rw [← HRR.out]
  exact ⟨v,rfl,Go.Joins.ownsRow_le HO.out hWs,HR3.out,HK3.out⟩
theorem LBytesOut.later {w w1 w':World} {b:Nat} {g:Nat→Prop} {r:List UInt8×Rd} {e:Ending} (h:LBytesOut w1 b g r e w') (hk:Kept (fun i=>i=b) w w1):LBytesOut w b g r e w':=by
 obtain ⟨v,h1,h2,h3,h4⟩:=h
 exact ⟨v,h1,Go.Joins.ownsRow_le h2 hk.size,h3,hk.trans h4 fun _ _ e=>e⟩
theorem lText_any (w:World) (b:Nat) (g:Nat→Prop) (s:Rd) (hR:IsR w b g s) (most:Int) (hm1:-9223372036854775808≤most) (hm2:most≤9223372036854775807):
  Calls Tryz.prog 105 #[at0 b,.int .i64 most] w (LBytesOut w b g (rText s most)):=by
 have HR:=Lib.hid hR
 clear hR
 have hb1:=rInt_bounds s most hm1 hm2
 obtain ⟨r,hr⟩:∃ r,r=rText s most:=⟨_,rfl⟩
 rw [← hr]
 unfold rText at hr
 have HRR:=Lib.hid hr
 clear hr
 unfold at0
 go_enter Tryz.func105,Tryz.ntmps105
 go_wp2_with fail
 refine (lInt_any w b g s HR.out most hm1 hm2).mono ?_
 rintro e w1 ⟨rfl,hI,hk⟩
 have HI:=Lib.hid hI
 have HK:=Lib.hid hk
 clear hI hk
 go_wp2_with fail
 refine (lBytes_any w1 b g _ HI.out _ hb1.1 hb1.2).mono ?_
 rintro e w2 ⟨v,rfl,h2,h3,h4⟩
 have H2:=Lib.hid h2
 have H3:=Lib.hid h3
 have H4:=Lib.hid h4
 clear h2 h3 h4
 go_wp2
 go_ret
 rw [HRR.out]
 exact LBytesOut.later ⟨v,rfl,H2.out,H3.out,H4.out⟩ HK.out
theorem lNew_any (w:World) (A:Option Addr) (n c:Nat) (l:Nm) (hl:BytesIn w A n l) (hn:n≤1099511627776):
  Calls Tryz.prog 145 #[.slice A n c] w fun e w'=>∃ (b:Nat) (g:Nat→Prop),e=.returned (at0 b)∧w.heap.size≤b∧(∀ i,g i→w.heap.size≤i)∧IsR w' b g ⟨l,0,0⟩∧Below w.heap.size w w':=by
 have HL:=Lib.hid hl
 have hln:l.length=n:=by have:=hl.2.1.len;simpa using this
 have HLN:=Lib.hid hln
 clear hl hln
 go_enter Tryz.func145,Tryz.ntmps145
 go_wp2_with fail
 refine (clone_any w A n c l HL.out (by omega)).mono ?_
 rintro e w1 ⟨v,rfl,hO,hB⟩
 obtain ⟨A2,c2,hv⟩:=own_slice hO
 subst hv
 have HO:=Lib.hid hO
 have HB:=Lib.hid hB
 clear hO hB
 go_wp2
 go_ret
 have hs:=HB.out.size
 have hr:rRest ⟨l,0,0⟩=l:=rRest_ok (s:=⟨l,0,0⟩) rfl
 have h2:BytesIn w1 A2 n l:=BytesIn.own HO.out (by unfold maxLen;omega)
 have h3:=h2.below ((Below.refl _ w1).alloc (Nat.le_refl _) (.cells #[.slice A2 n c2,.int .i64 0] 255))
 have hlt:=fun g hg=>HO.out.lt g hg
 refine ⟨w1.heap.size,fun i=>w.heap.size≤i∧i < w1.heap.size,rfl,hs,fun i h=>h.1,⟨⟨A2,c2,?_,?_,?_,?_⟩,fun h=>by omega,fun i h=>by simp;omega,⟨Nat.zero_le _⟩,?_⟩,HB.out.alloc hs _⟩
 ·rw [hr,HLN.out]
  exact Blk.new w1 _ _
 ·rw [hr,HLN.out];exact h3
 ·rw [hr,HLN.out];exact own_le HO.out
 ·rw [hr,HLN.out]
  exact fun ad e _=>hlt ad.block (by rw [e];rfl)
 ·show l.length≤_
  rw [HLN.out];exact hn
end Go.Proofs.YthcjikpabpgpfaaGreat
