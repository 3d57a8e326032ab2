import Derived.Test.YthcjikpabpgpfaaGreatZp17
import Derived.Lib.SmallJoins
set_option linter.unusedSimpArgs false
set_option maxHeartbeats 16000000
set_option maxRecDepth 100000
namespace Go.Proofs.YthcjikpabpgpfaaGreat
open Go.RowKit Go.Maps Go.WideMaps
theorem Zxs (l:List (Int×Int)):∀ u∈l.flatMap Zat,u.oneCell'=true:=λu hu=>by
 obtain⟨p,_,h⟩:=List.mem_flatMap.1 hu;simp[Zat]at h;rcases h with rfl|rfl<;>rfl
def Zn4 (w:World) (l:List (Int×Int)) (e:Ending) (w':World):Prop:=∃ A c,e=.returned (.slice A l.length c)/\PairsIn w' A l.length l/\l.length<=c/\(∀ ad,A=some ad->0<l.length->w.heap.size<=ad.block/\ad.block<w'.heap.size)/\Below w.heap.size w w'
theorem Zrr (w:World) (B:Option Addr) (m c:Nat) (M:List (Int×Int)) (hM:PairsIn w B m M) (hm:m<=1048576):
  Calls Tryz.prog 71 #[.slice B m c] w λe w'=>∃ v,e=.returned v/\w'.ownsRow w.heap.size 64 2 v m (M.flatMap Zat)/\Below w.heap.size w w':=by
 obtain⟨i0,hi,hz0,hz1,hz2⟩:=info_parts Zgs;have q22:∀ (w:World) (a:Option Addr) (n c n' c':Nat),(binOp .eql 60 (.slice a n c) (.slice none n' c')).run Tryz.prog w=.ok (.bool a.isNone) w:=λw a n c n' c'=>Lib.run_eql_slice_nil w _ _ a n c n' c' Tryz.underlying60;have hl:=hM.len;cases B with
 | none=>
  have h0:=hM.nil rfl;have hx:M=[]:=Ya0 (by omega);subst h0 hx;clear hM hl;go_enter Tryz.func71,Tryz.ntmps71;go_wp2;go_ret;exact⟨_,rfl,⟨rfl,.inl ⟨rfl,rfl⟩⟩,Ybm _ _⟩
 | some ad=>
  have HS:=Zh (Zwt (hM.below ((Ybm _ w).alloc (Yar _) (.cells #[] 64))));have HLEN:=Zh (Qec M);have HL:=Zh hl;have HONE:=Zh (Zxs M);clear hM hl;go_enter Tryz.func71,Tryz.ntmps71;go_wp2_with (at_builtin;refine wpList_append_own_at _ rfl (.tmp 5) (.tmp 6) 60 rfl w.heap.size 64 i0 _ 2 16 Tryz.underlying60 hi hz0 hz1 hz2 rfl (by decide) _ 0 [] rfl (Ybx w #[] 0 (Yar _) (Ybd _) rfl) ad m c (M.flatMap Zat) rfl (by rw[HLEN.out,HL.out]) HS.out HONE.out (by unfold maxLen;omega) (by omega) (by simp) ?_;intro v w2 hown hgrow hnil hloc;clear hnil;rw[Ya4,Yad]at hown;have HO:=Zh hown;have HB:Hid (Below w.heap.size w w2):=Zh ((((Ybm _ w).alloc (Yar _) (.cells #[] 64)).grown hgrow (by simp) (λk e=>by cases e;exact Yar _)));clear hown hgrow hloc);go_ret;exact⟨_,rfl,HO.out,HB.out⟩
theorem Zyq {w:World} {F:Nat->Prop} {b:Nat} {s:CSt} (h:K0 w F b s):Calls Tryz.prog 27 #[.pointer (some ⟨b,0,none⟩)] w (Zn4 w (Zo3 s)):=by
 have hV:=h.1;obtain⟨A,n,c,l,c0,hs,h0,h1⟩:=Qcr h;clear h;unfold Zo3;rcases Yai n with hn|hn
 ·have h2:=h0.1 hn
  rw[Yaf (by omega)];subst hn;clear h0 h1 hs hV;go_enter Tryz.func27,Tryz.ntmps27;go_wp2;go_ret;exact⟨none,0,rfl,⟨rfl,Ybd _,by simp,λ_=>rfl,λad e=>(by cases e)⟩,Yar _,λad e=>(by cases e),Ybm _ _⟩
 ·have h2:s.at_<s.l.length:=by
   rcases Yab s.at_ s.l.length with h3|h3
   ·exact h3
   ·have:=h0.2 h3;omega
  rw[Yag h2];have hsp:=hV.spots _ (Zay h2);obtain⟨pa,x,SA,da,rfl,hx,-,-,a1,-,hsx⟩:=hs.at 0 hn;have hpx:=Zef hx;rw[h1 hn]at hpx;rw[hpx]at hsp ⊢;have d1:((n:Int)==0)=false:=beq_eq_false_iff_ne.2 (by omega);have a1':w.cell? ⟨pa.block,pa.off+1,none⟩=some (.slice SA x.2.length da):=by simpa[Addr.add]using a1
  obtain⟨X,hX⟩:=Ze x.2;rw[<- hX]at a1 a1' hsx hsp ⊢;obtain⟨m,hm⟩:=Ze X.length;have HCL:=Zh (Zrr w SA m da X (by rw[hm];exact hsx) (by omega));have HVL:=Zh hsx.vals;have HM:=Zh hm;rw[<- hm]at a1 a1' hsp;clear h0 h1 hs hx hpx h2 hV hX hsx hm;go_enter Tryz.func27,Tryz.ntmps27;go_wp2_with fail;refine HCL.out.mono ?_;rintro e w1 ⟨v,rfl,ho,hb⟩;have HO:=Zh ho;have HB:=Zh hb;obtain⟨V,cv,rfl⟩:=Zac ho;clear ho hb;go_wp2;go_ret;unfold Zn4;rw[<- HM.out];exact⟨V,cv,rfl,PairsIn.ownTwo HO.out HM.out.symm (by unfold maxLen;omega) HVL.out,Zbi HO.out,λad e _=>HO.out.lt ad.block (by rw[e];rfl),HB.out⟩
end Go.Proofs.YthcjikpabpgpfaaGreat
