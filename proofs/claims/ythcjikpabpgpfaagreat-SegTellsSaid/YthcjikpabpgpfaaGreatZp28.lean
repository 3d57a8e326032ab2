import Derived.Test.YthcjikpabpgpfaaGreatZp24
import Derived.Deep.LoopGhost
import Derived.Shelf.Abstract
set_option linter.unusedSimpArgs false
set_option maxHeartbeats 16000000
set_option maxRecDepth 100000
namespace Go.Proofs.YthcjikpabpgpfaaGreat
section
open Go.RowKit Go.Maps Go.WideMaps
theorem Zur (w:World) (b:Nat) (V:Voc) (hC:Coder w b V) (hM:V.mer.length<=1000000) (A:Option Addr) (n c:Nat) (s:Nm) (hs:BytesIn w A n s):
  Calls Tryz.prog 21 #[at0 b,.slice A n c] w (Zmy w (encR V.mer s) (encE s)):=by
 have hsl:s.length=n:=by have:=hs.2.1.len;simpa using this
 have hn63:n<=9223372036854775807:=hs.1;unfold encR encE at0;rw[hsl];rcases Yab 4096 n with hlt|hge
 ·rw[Yag hlt,Yag hlt]
  clear hC hs;have h1:(4096:Int)<(n:Int):=by omega
  go_enter Tryz.func21,Tryz.ntmps21;go_wp2;go_ret2;exact⟨_,rfl,Yb2 _ _ _ _,Ybm _ _⟩
 ·rw[Yaf (by omega),Yaf (by omega)]
  have h1:¬ (4096:Int)<(n:Int):=by omega
  have HC:=Zh hC;have HS:=Zh hs;have HSL:=Zh hsl;clear hC hs hsl;go_enter Tryz.func21,Tryz.ntmps21;go_wp2_with fail;refine(Zuo w b V HC.out A n c s HS.out (by omega) hM).mono ?_;rintro e w1 ⟨r,st0,rfl,hR0,hS0,hl0⟩;have hO0:=Zmf s;have HR0:=Zh hR0;have HS0:=Zh hS0;have HL0:=Zh hl0;have HO0:=Zh hO0;clear hR0 hS0 hl0 hO0;unfold at0;go_wp2_with fail;go_loopg [13] n (λk _ wr=>∃ (l:List Int) (qs:List Nat) (at_ before behind:List Int) (st:List (Nat×Nat)),k=l.length/\Zfp V.mer l.length l=encL V.mer s/\Row w wr r b at_ before behind st/\RowOK n l qs at_ before behind/\StOK st (Zcg V.mer l qs)/\st.length+l.length<=2*n);case atStart=>exact⟨_,_,_,_,_,_,by rw[Za8,HSL.out],by rw[Za8];rfl,HR0.out,HSL.out ▸ HO0.out,HS0.out,by rw[Za8];have:=HL0.out;have:=HSL.out;omega⟩
  case round=>
   obtain⟨l,qs,at_,before,behind,st,rfl,hE,hR,hO,hS,hB⟩:=hrel;obtain⟨va,vb,vc,vs,hI⟩:=hR;obtain⟨As,cs,rfl⟩:=Zac hI.stR;have g4:=hI.cl.2.2.2.2;rcases Yai st.length with h0|hpos
   ·have hst:st=[]:=Ya0 h0
    have hbest:Zdm V.mer l=none:=Zr3 λj=>by
     cases hp:Zb0 V.mer l j with
     | none=>rfl
     | some k=>
      obtain⟨q,hq⟩:=hO.get (i:=j) (by have:=Zei hp;omega);have:=(hS.mem (k,q)).2 ⟨j,stepOf_some.2 ⟨hq,hp⟩⟩
      rw[hst]at this;cases this
    rw[Zhm hbest]at hE;have HI:=Zh hI;have HO:=Zh hO;have HE:=Zh hE;have hz:¬ (0:Int)<(st.length:Int):=by omega
    clear hI hO hS hE hbest hst h0;go_wp2_with fail;refine(Qbe w wr r b ⟨_,_,_,_,HI.out⟩ HO.out (by omega)).mono ?_;rintro e w2 ⟨v,rfl,hown,hb⟩;obtain⟨A2,c2,rfl⟩:=Zac hown;have HOWN:=Zh hown;have HB:=Zh hb;clear hown hb g4;go_wp2_with fail;go_ret2;refine⟨_,rfl,?_,?_⟩
    ·rw[<- HE.out]
     exact Zf5 HOWN.out HI.out.below.size
    ·exact Zaa HI.out.below HB.out HI.out.below.size
   ·have HI:=Zh hI
    have HO:=Zh hO;have HS2:=Zh hS;have HE:=Zh hE;have hz:(0:Int)<(st.length:Int):=by omega
    clear hI hO hS hE;go_wp2_with fail;refine(Zlv w wr r b V HC.out ⟨_,_,_,_,HI.out⟩ HO.out HS2.out hpos (by omega) (by omega) hM).mono ?_;rintro e w2 ⟨k,i,qs',a',b',c',st',rfl,hbest,hR',hO',hS',hl'⟩;have hi:=Zei (Zki hbest);have hml:=Zeg hi (toOf V.mer k);have hE2:Zfp V.mer (Za2 l i (toOf V.mer k)).length (Za2 l i (toOf V.mer k))=encL V.mer s:=by
     rw[hml,<- Zhi hbest,show l.length-1+1=l.length by omega];exact HE.out
    have HR':=Zh hR';have HO':=Zh hO';have HS':=Zh hS';have HE2:=Zh hE2;have HML:=Zh hml;clear hR' hO' hS' hE2 hml hbest g4;go_wp2_with fail;go_roundg (l.length-1);case measure=>omega
    case rel=>exact⟨_,qs',a',b',c',st',HML.out.symm,HE2.out,HR'.out,HO'.out,HS'.out,by rw[HML.out];omega⟩
end
section
open Go.RowKit Go.Maps Go.WideMaps Go.Shelf
theorem Zxr (W:World) (pb b:Nat) (A:Option Addr) (N ca:Nat) (i:Int) (h1:W.cell? ⟨pb,0,none⟩=some (at0 b)) (h2:W.cell? ⟨b,0,none⟩=some (.slice A N ca)):
  Calls Tryz.prog 119 (#[.int .i64 i]++#[.pointer (some ⟨pb,0,none⟩)]) W λe w'=>e=.returned (.bool (decide (i<0\/(N:Int)<=i)))/\w'=W:=by
 unfold at0 at h1;by_cases hn:i<0
 ·have hd:decide (i<0)=true:=Yb0 hn
  rw[show decide (i<0\/(N:Int)<=i)=true from Yb0 (.inl hn)];clear hn;go_enter Tryz.func119,Tryz.ntmps119;go_wp2;go_ret;exact⟨rfl,rfl⟩
 ·have hd:decide (i<0)=false:=Ybt hn
  by_cases hN:(N:Int)<=i
  ·rw[show decide (i<0\/(N:Int)<=i)=true from Yb0 (.inr hN)]
   go_enter Tryz.func119,Tryz.ntmps119;go_wp2;go_ret;exact⟨rfl,rfl⟩
  ·rw[show decide (i<0\/(N:Int)<=i)=false from Ybt (by omega)]
   go_enter Tryz.func119,Tryz.ntmps119;go_wp2;go_ret;exact⟨rfl,rfl⟩
def idxI (p:Int->Bool) (l:List Int):Int:=match l.findIdx? p with|some k=>(k:Int)|none=>-1
theorem Zy2 {p:Int->Bool} {l:List Int} {k:Nat} {x:Int} (hx:l[k]?=some x) (hp:p x=true) (hn:∀ (j:Nat) (y:Int),j<k->l[j]?=some y->p y=false):idxI p l=k:=by
 have h:l.findIdx? p=some k:=by
  rw[List.findIdx?_eq_some_iff_getElem];have hk:=(Ybb.1 hx)
  exact⟨hk.1,by rw[hk.2];exact hp,λj hj=>by simpa using hn j _ hj (Yax (Nat.lt_trans hj hk.1))⟩
 unfold idxI;rw[h]
theorem Zym {p:Int->Bool} {l:List Int} (hn:∀ (j:Nat) (y:Int),l[j]?=some y->p y=false):idxI p l=-1:=by
 have h:l.findIdx? p=none:=by
  rw[List.findIdx?_eq_none_iff];intro x hx;obtain⟨j,hj⟩:=List.mem_iff_getElem?.1 hx;exact hn j x hj
 unfold idxI;rw[h]
theorem Qbh (p:Int->Bool) (l:List Int):decide (0<=idxI p l)=l.any p:=by
 unfold idxI;cases h:l.findIdx? p with
 | none=>
  rw[List.findIdx?_eq_none_iff]at h;rw[show l.any p=false by rw[List.any_eq_false];intro x hx;simp[h x hx]];decide
 | some k=>
  rw[List.findIdx?_eq_some_iff_getElem]at h;obtain⟨h1,h2,_⟩:=h;rw[show l.any p=true by rw[List.any_eq_true];exact⟨_,Yay h1,h2⟩];exact Yb0 (Int.natCast_nonneg k)
theorem Zra (f:Nat) (cap:Array Value) (eg:∀ args w,(callFunc f args).run Tryz.prog w=.ok (.enter f args) w) (w:World) (A:Option Addr) (n c:Nat) (l:List Int) (hl:IntsIn w A n l) (p:Int->Bool)
  (hcl:∀ x,Calls Tryz.prog f (#[.int .i64 x]++cap) w λe w'=>e=.returned (.bool (p x))/\w'=w):
  Calls Tryz.prog 160 #[.slice A n c,.func (.func f) #[] cap] w λe w'=>e=.returned (.int .i64 (idxI p l))/\w'=w:=by
 have hn63:n<=9223372036854775807:=hl.1;have HL:=Zh hl;have HCL:=Zh hcl;have HLN:=Zh hl.len;obtain⟨R,hR⟩:=Ze (idxI p l);rw[<- hR];have HR:=Zh hR;clear hl hcl hR;go_enter Tryz.func160,Tryz.ntmps160;go_wp2_with fail;go_loop [8] (λi=>∃ k:Nat,k<=n/\i=.int .i64 k/\∀ (j:Nat) (y:Int),j<k->l[j]?=some y->p y=false) (λi=>n-(intOf i).toNat);case atStart=>exact⟨0,Ybd _,rfl,λj y h=>by omega⟩
 case round=>
  obtain⟨k,hk,rfl,hq⟩:=hrel;have HQ:=Zh hq;clear hq;rcases Yab k n with hlt|hge
  ·obtain⟨ad,x,rfl,hx,xc,f1,f2⟩:=HL.out.at k hlt
   have HX:=Zh hx;have hkn:(k:Int)<(n:Int):=by omega
   have hk0:(0:Int)<=(k:Int):=by omega
   clear hx;cases hp:p x with
   | true=>
    have h:=HCL.out x;rw[hp]at h;have HP:=Zh h;have HPE:=Zh hp;clear h hp;go_wp2_with fail;refine HP.out.mono ?_;rintro e w' ⟨rfl,rfl⟩;go_wp2_with fail;go_ret;refine⟨?_,rfl⟩;rw[HR.out,Zy2 HX.out HPE.out HQ.out];rfl
   | false=>
    have h:=HCL.out x;rw[hp]at h;have HP:=Zh h;have HPE:=Zh hp;clear h hp;go_wp2_with fail;refine HP.out.mono ?_;rintro e w' ⟨rfl,rfl⟩;go_wp2_with fail;go_round;case rel=>exact⟨k+1,by omega,by go_num,λj y hj hy=>by
     rcases Yab j k with h|h
     ·exact HQ.out j y h hy
     ·obtain rfl:j=k:=by omega
      have h1:=HX.out;rw[hy]at h1;cases h1
      exact HPE.out⟩
    case measure=>simp[intOf];omega
  ·obtain rfl:n=k:=by omega
   go_wp2_with fail;go_ret;refine⟨?_,rfl⟩;rw[HR.out,Zym λj y hy=>HQ.out j y (by have:=(Ybb.1 hy).1;rw[HLN.out]at this;exact this) hy];rfl
theorem Zpm (f:Nat) (cap:Array Value) (eg:∀ args w,(callFunc f args).run Tryz.prog w=.ok (.enter f args) w) (w:World) (A:Option Addr) (n c:Nat) (l:List Int) (hl:IntsIn w A n l) (p:Int->Bool)
  (hcl:∀ x,Calls Tryz.prog f (#[.int .i64 x]++cap) w λe w'=>e=.returned (.bool (p x))/\w'=w):
  Calls Tryz.prog 118 #[.slice A n c,.func (.func f) #[] cap] w λe w'=>e=.returned (.bool (l.any p))/\w'=w:=by
 have h:=Zra f cap eg w A n c l hl p hcl;have hd:=Qbh p l;obtain⟨I,hI⟩:=Ze (idxI p l);rw[<- hI]at h hd;rw[<- hd];have H:=Zh h;clear hl hcl h hd hI;go_enter Tryz.func118,Tryz.ntmps118;go_wp2_with fail;refine H.out.mono ?_;rintro e w' ⟨rfl,rfl⟩;go_wp2_with fail;go_ret;refine⟨?_,rfl⟩;simp only[Ending.returned.injEq,Value.bool.injEq];first|rfl|(congr 1)
def Zke (L:List Nm) (l:List Int) (I:Nat->World->Prop) (e:Ending) (w':World):Prop:=
 e=.returned (.int .i64 (Zc8 L l))/\∃ k,I k w'/\(Zc8 L l=0->k=l.length)
theorem Zz4 (f:Nat) (cap:Array Value) (eg:∀ args w,(callFunc f args).run Tryz.prog w=.ok (.enter f args) w) (w0 w:World) (b:Nat) (V:Voc) (hC:Coder w0 b V) (hS:∀ x∈V.tok,x.length<=4096) (C:Option Addr) (p c:Nat) (l:List Int) (hl:IntsIn w0 C p l)
  (hb:Below w0.heap.size w0 w) (I:Nat->World->Prop) (hI0:I 0 (w.alloc (.cells #[at0 b] 35))) (hIX:∀ k u,I k u->Blk u w.heap.size 35 #[at0 b]) (hIB:∀ k u,I k u->Below w0.heap.size w0 u)
  (hcl:∀ (k i:Nat) (u:World) (A:Option Addr) (c:Nat) (x:Nm),I k u->l[k]?=some (i:Int)->V.tok[i]?=some x->BytesIn u A x.length x->x.length<=c->(Zbg V.tok l k).length+x.length<=4096->Calls Tryz.prog f (#[.slice A x.length c,.int .i64 ((Zbg V.tok l k).length:Nat)]++cap) u λe u'=>e=.returned (.tuple #[])/\I (k+1) u'):
  Calls Tryz.prog 64 #[at0 b,.slice C p c,.func (.func f) #[] cap] w (Zke V.tok l I):=by
 have hln:=hl.len;obtain⟨A,B,ca,cb,bp,D,cs,hCC⟩:=hC;have hk0:∀ u,Below w0.heap.size w0 u->u.cell? ⟨b,0,none⟩=some (.slice A V.tok.length ca):=λu hb=>by rw[(hCC.blk.below hb hCC.blk.lt).cell];exact hCC.c0
 have hb1:Below w.heap.size w (w.alloc (.cells #[at0 b] 35)):=(Ybm _ w).alloc (Yar _) _;have hbox:(w.alloc (.cells #[at0 b] 35)).cell? ⟨w.heap.size,0,none⟩=some (at0 b):=by
  rw[(Blk.new w 35 #[at0 b]).cell 0];rfl
 have hb01:=Zaa hb hb1 hb.size;have hcont:=Zpm 119 #[.pointer (some ⟨w.heap.size,0,none⟩)] (enters_of Tryz.func119 (by kernel_rfl) rfl) (w.alloc (.cells #[at0 b] 35)) C p c l (hl.below hb01) (λi=>decide (i<0\/(V.tok.length:Int)<=i)) (λx=>Zxr _ w.heap.size b A V.tok.length ca x hbox (hk0 _ hb01));have hany:(l.any λi=>decide (i<0\/(V.tok.length:Int)<=i))=!decide (∀ i∈l,Zft V.tok i):=by
  by_cases h:∀ i∈l,Zft V.tok i
  ·rw[Yb0 h]
   rw[Bool.not_true,List.any_eq_false];intro i hi;have:=h i hi
   unfold Zft at this;simp;omega
  ·rw[Ybt h,Bool.not_false,List.any_eq_true]
   simp only[Classical.not_forall]at h;obtain⟨i,hi,hn⟩:=h;refine⟨i,hi,Yb0 ?_⟩;unfold Zft at hn;omega
 rw[hany]at hcont;have hp63:p<=9223372036854775807:=hl.1;have HL:=Zh hl;have HLN:=Zh hln;have HK0:=Zh hk0;have HTOK:=Zh hCC.tok;have HS:=Zh hS;have HI0:=Zh hI0;have HIX:=Zh hIX;have HIB:=Zh hIB;have HCL:=Zh hcl;by_cases hall:∀ i∈l,Zft V.tok i
 ·rw[Yb0 hall,Bool.not_true]at hcont
  have HALL:=Zh hall;have HCONT:=Zh hcont;have hw1:Zc8 V.tok l=if 4096<(decT V.tok l).length then 2 else 0:=by unfold Zc8;rw[Yag hall]
  have HW1:=Zh hw1;clear hl hln hk0 hCC hS hI0 hIX hIB hcl hcont hall hany hb1 hb01 hbox hw1 hb;unfold at0 at HCONT ⊢;go_enter Tryz.func64,Tryz.ntmps64;go_wp2_with fail;refine HCONT.out.mono ?_;rintro e w1 ⟨rfl,rfl⟩;go_wp2_with fail;go_loopw [7,16] (λa i wr=>∃ k:Nat,k<=p/\i=.int .i64 (k:Nat)/\a=.int .i64 ((Zbg V.tok l k).length:Nat)/\(Zbg V.tok l k).length<=4096/\I k wr) (λ_ i _=>p-(intOf i).toNat);case atStart=>exact⟨0,Ybd _,rfl,rfl,Ybd _,HI0.out⟩
  case round=>
   obtain⟨k,hk,rfl,rfl,htk,hI⟩:=hrel;rcases Yab k p with hlt|hge
   ·have hB:=HIB.out _ _ hI
    obtain⟨ad,xi,rfl,hx,xc,f1,f2⟩:=(HL.out.below hB).at k hlt;have htin:=HALL.out xi (Ybz hx);obtain⟨i,rfl⟩:∃ i:Nat,xi=(i:Int):=⟨xi.toNat,by have:=htin.1;omega⟩
    have hil:i<V.tok.length:=by have:=htin.2;omega
    have hxt:V.tok[i]?=some (V.tok[i]'hil):=Yax hil;obtain⟨x,hxe⟩:=Ze (V.tok[i]'hil);rw[<- hxe]at hxt;obtain⟨adt,Bt,ct,e1,tc,hct,hbt⟩:=(HTOK.out.below hB).at_ i x hxt;subst e1;have hx4:=HS.out x (Ybz hxt);have htx:=Zuk hx hxt;have hbx:=(HIX.out _ _ hI).cell 0;simp only[lz0,lz1]at hbx;unfold at0 at hbx;have hk0:=HK0.out _ hB;have hkp:(k:Int)<(p:Int):=by omega
    have hkz:(0:Int)<=(k:Int):=by omega
    have hiz:(0:Int)<=(i:Int):=by omega
    have hiT:(i:Int)<(V.tok.length:Int):=by omega
    obtain⟨a,ha⟩:=Ze ((Zbg V.tok l k).length);rw[<- ha]at htk;have haz:(a:Int)<=4096:=by omega
    have hxz:(x.length:Int)<=4096:=by omega
    have HA:=Zh ha;have HI:=Zh hI;have HX:=Zh hx;have HXT:=Zh hxt;have HBT:=Zh hbt;have HTX:=Zh htx;rw[<- ha];clear hB hx hxt hxe htx ha hI hbt htin;by_cases hov:4096<a+x.length
    ·have hov1:(4096:Int)-(a:Int)<(x.length:Int):=by omega
     have hfin:Zc8 V.tok l=2:=by
      rw[HW1.out,Yag];have h1:=Zfc V.tok l (a:=k+1) (b:=l.length) (by rw[HLN.out];omega);rw[HTX.out,Yaq,<- HA.out]at h1;unfold decT;omega
     have HF:=Zh hfin;clear hfin;go_wp2_with fail;go_ret;rw[Zke,HF.out];exact⟨rfl,k,HI.out,λh=>by omega⟩
    ·have hov1:¬ (4096:Int)-(a:Int)<(x.length:Int):=by omega
     have hcal:=HCL.out k i wr Bt ct x HI.out HX.out HXT.out HBT.out hct (by rw[<- HA.out];omega);rw[<- HA.out]at hcal;have HCAL:=Zh hcal;clear hcal;go_wp2_with fail;refine HCAL.out.mono ?_;rintro e w2 ⟨rfl,hI2⟩;have HI2:=Zh hI2;clear hI2 hbx hk0 xc tc;go_wp2_with fail;go_roundw;case rel=>exact⟨k+1,by omega,by go_num,by rw[HTX.out,Yaq,<- HA.out];go_num,by rw[HTX.out,Yaq,<- HA.out];omega,HI2.out⟩
     case measure=>simp[intOf];omega
   ·obtain rfl:p=k:=by omega
    have hfin:Zc8 V.tok l=0:=by
     rw[HW1.out,Yaf];unfold decT;rw[HLN.out];omega
    have HF:=Zh hfin;have HI:=Zh hI;clear hfin hI;go_wp2_with fail;go_ret;rw[Zke,HF.out];exact⟨rfl,p,HI.out,λ_=>HLN.out.symm⟩
 ·rw[Ybt hall,Bool.not_false]at hcont
  have HCONT:=Zh hcont;have hw1:Zc8 V.tok l=1:=by unfold Zc8;rw[Yaf hall]
  have HW1:=Zh hw1;clear hl hln hk0 hCC hS hI0 hIX hIB hcl hcont hall hany hb1 hb01 hbox hw1 hb;unfold at0 at HCONT ⊢;go_enter Tryz.func64,Tryz.ntmps64;go_wp2_with fail;refine HCONT.out.mono ?_;rintro e w1 ⟨rfl,rfl⟩;go_wp2_with fail;go_ret;rw[Zke,HW1.out];exact⟨rfl,0,HI0.out,λh=>by omega⟩
end
section
open Go.RowKit Go.Maps Go.WideMaps
theorem Zrf (w:World) (B:Option Addr) (m c:Nat) (M:List Mg) (hM:MgSee w B m M) (hm:m<=1048576):
  Calls Tryz.prog 39 #[.slice B m c] w λe w'=>∃ v,e=.returned v/\w'.ownsRow w.heap.size 88 3 v m (M.flatMap Zav)/\Below w.heap.size w w':=by
 obtain⟨i0,hi,hz0,hz1,hz2⟩:=info_parts Zk2;have q22:∀ (w:World) (a:Option Addr) (n c n' c':Nat),(binOp .eql 28 (.slice a n c) (.slice none n' c')).run Tryz.prog w=.ok (.bool a.isNone) w:=λw a n c n' c'=>Lib.run_eql_slice_nil w _ _ a n c n' c' Tryz.underlying28;have hl:=hM.len;cases B with
 | none=>
  have h0:M=[]:=by
   cases M with
   | nil=>rfl
   | cons x r=>obtain⟨ad,e,_⟩:=hM.at_ 0 x rfl;cases e
  subst h0;obtain rfl:m=0:=by simpa using hl.symm
  clear hM hl;go_enter Tryz.func39,Tryz.ntmps39;go_wp2;go_ret;exact⟨_,rfl,⟨rfl,.inl ⟨rfl,rfl⟩⟩,Ybm _ _⟩
 | some ad=>
  have HS:=Zh ((hM.below ((Ybm _ w).alloc (Yar _) (.cells #[] 88))).src);have hlen:=Zkj M;have HLEN:=Zh hlen;have HL:=Zh hl;have HONE:=Zh (Zrb M);clear hM hlen hl;go_enter Tryz.func39,Tryz.ntmps39;go_wp2_with (at_builtin;refine wpList_append_own_at _ rfl (.tmp 5) (.tmp 6) 28 rfl w.heap.size 88 i0 _ 3 24 Tryz.underlying28 hi hz0 hz1 hz2 rfl (by decide) _ 0 [] rfl (Ybx w #[] 0 (Yar _) (Ybd _) rfl) ad m c (M.flatMap Zav) rfl (by rw[HLEN.out,HL.out]) (HS.out.cells ad rfl) HONE.out (by unfold maxLen;omega) (by omega) (by simp) ?_;intro v w2 hown hgrow hnil hloc;clear hnil;rw[Ya4,Yad]at hown;have HO:=Zh hown;have HB:Hid (Below w.heap.size w w2):=Zh ((((Ybm _ w).alloc (Yar _) (.cells #[] 88)).grown hgrow (by simp) (λk e=>by cases e;exact Yar _)));clear hown hgrow hloc);go_ret;exact⟨_,rfl,HO.out,HB.out⟩
structure CB (w0 wr:World) (V:Voc) (b bp t j k:Nat) (tv mv:Value) (D:DataW Unit) (cs:Array Value):Prop where
 below:Below w0.heap.size w0 wr
 new:w0.heap.size<=b
 blk:Blk wr b 92 cs
 size:cs.size=259
 c0:cs[0]?=some tv
 c1:cs[1]?=some mv
 cB:∀ c,c<256->cs[2+c]?=some (.int .i64 ((if c<j then c else 0:Nat):Int))
 cM:cs[258]?=some (.map (some bp))
 rows:RowsG wr (b+1) tv (V.tok.take t)
 mrow:wr.ownsRow w0.heap.size 88 3 mv V.mer.length (V.mer.flatMap Zav)
 map:Znb wr bp k D
 isR:RankMap D (V.mer.take k)
 bpn:w0.heap.size<=bp/\bp<b
section
variable {w0 wr w':World} {V:Voc} {b bp t j k:Nat} {tv mv v':Value} {D:DataW Unit} {cs:Array Value}
theorem CB.then (h:CB w0 wr V b bp t j k tv mv D cs) (hb:Below wr.heap.size wr w'):CB w0 w' V b bp t j k tv mv D cs where
 below:=Zaa h.below hb h.below.size
 new:=h.new
 blk:=h.blk.below hb h.blk.lt
 size:=h.size
 c0:=h.c0
 c1:=h.c1
 cB:=h.cB
 cM:=h.cM
 rows:=h.rows.below hb
 mrow:=Zab h.mrow λg hg=>hb.block g (h.mrow.lt g hg).2
 map:=Zap h.map (hb.block _ (Nat.lt_trans h.bpn.2 h.blk.lt))
 isR:=h.isR
 bpn:=h.bpn
theorem RowsG.lt {w:World} {base:Nat} {v:Value} {L:List Nm} (h:RowsG w base v L):∀ g,v.ownBlock=some g->base<=g/\g<w.heap.size:=by
 obtain⟨svs,h1,_⟩:=h;exact h1.lt
theorem CB.tvb (h:CB w0 wr V b bp t j k tv mv D cs):tv.ownBlock≠some b:=λe=>by have:=(h.rows.lt b e).1;omega
theorem CB.setTok {w5:World} {x:Nm} (h:CB w0 wr V b bp t j k tv mv D cs) (hg:wr.grownBy w5 tv.ownBlock) (htk:V.tok.take (t+1)=V.tok.take t++[x]) (hr:RowsG w5 (b+1) v' (V.tok.take t++[x])):
  CB w0 (w5.setCell ⟨b,0,none⟩ v') V b bp (t+1) j k v' mv D (cs.setIfInBounds 0 v'):=by
 have hblk2:Blk w5 b 92 cs:=h.blk.grown hg (λe=>h.tvb e.symm);have hs:=hg.size;exact {
  below:=(h.below.grown hg h.below.size (λg e=>by have:=(h.rows.lt g e).1;have:=h.new;omega)).setCell h.new _
  new:=h.new
  blk:=hblk2.set_ 0 v'
  size:=by simpa using h.size
  c0:=by rw[Ycp];simp[h.size]
  c1:=by rw[Ycp];simpa using h.c1
  cB:=λc hc=>by rw[Ycp,Yaf (by omega)];exact h.cB c hc
  cM:=by rw[Ycp];simpa using h.cM
  rows:=by
   rw[htk];exact hr.keep (λi h1 _=>Zad _ _ _ (by show i≠b;omega)) (by rw[Zai];exact Yar _)
  mrow:=Zab h.mrow λg e=>by
   rw[Zad _ _ _ (λe2=>Zah h.mrow h.blk (by decide) (by rw[e,e2]))];obtain⟨svs,h1,_⟩:=h.rows;exact hg.block g (h.mrow.lt g e).2 (λe2=>Za7 h.mrow h1 (by decide) g e e2.symm)
  map:=Zap h.map (by
   rw[Zad _ _ _ (by show bp≠b;have:=h.bpn.2;omega)];exact hg.block bp (Nat.lt_trans h.bpn.2 h.blk.lt) (λe=>by have:=(h.rows.lt bp e.symm).1;have:=h.bpn.2;omega))
  isR:=h.isR
  bpn:=h.bpn }
theorem CB.setSingle (h:CB w0 wr V b bp t j k tv mv D cs) (hj:j<256):CB w0 (wr.setCell ⟨b,2+j,none⟩ (.int .i64 (j:Nat))) V b bp t (j+1) k tv mv D (cs.setIfInBounds (2+j) (.int .i64 (j:Nat))):={
  below:=h.below.setCell h.new _
  new:=h.new
  blk:=h.blk.set_ _ _
  size:=by simpa using h.size
  c0:=by rw[Ycp,Yaf (by omega)];exact h.c0
  c1:=by rw[Ycp,Yaf (by omega)];exact h.c1
  cB:=λc hc=>by
   rw[Ycp];by_cases e:c=j
   ·subst e
    rw[Yag rfl,Yag (by rw[h.size];omega),Yag (by omega)]
   ·rw[Yaf (by omega),h.cB c hc]
    congr 2;by_cases h1:c<j
    ·rw[Yag h1,Yag (by omega)]
    ·rw[Yaf h1,Yaf (by omega)]
  cM:=by rw[Ycp,Yaf (by omega)];exact h.cM
  rows:=h.rows.keep (λi h1 _=>Zad _ _ _ (by show i≠b;omega)) (by rw[Zai];exact Yar _)
  mrow:=Zab h.mrow λg e=>Zad _ _ _ (λe2=>Zah h.mrow h.blk (by decide) (by rw[e,e2]))
  map:=Zap h.map (Zad _ _ _ (by show bp≠b;have:=h.bpn.2;omega))
  isR:=h.isR
  bpn:=h.bpn }
theorem CB.skip (h:CB w0 wr V b bp t j k tv mv D cs) (hj:256<=j):CB w0 wr V b bp t (j+1) k tv mv D cs:=
 { h with cB:=λc hc=>by rw[h.cB c hc,Yag (by omega),Yag (by omega)] }
theorem CB.setMap {D':DataW Unit} (h:CB w0 wr V b bp t j k tv mv D cs) (hm:Znb w' bp (k+1) D') (hg:wr.grownBy w' (some bp)) (hr:RankMap D' (V.mer.take (k+1))):CB w0 w' V b bp t j (k+1) tv mv D' cs:={
  below:=h.below.grown hg h.below.size (λg e=>by cases e;exact h.bpn.1)
  new:=h.new
  blk:=h.blk.grown hg (λe=>by have:=h.bpn.2;cases e;omega)
  size:=h.size
  c0:=h.c0
  c1:=h.c1
  cB:=h.cB
  cM:=h.cM
  rows:=h.rows.keep (λi h1 h2=>hg.block i h2 (λe=>by have:=h.bpn.2;cases e;omega)) hg.size
  mrow:=Zab h.mrow λg e=>hg.block g (h.mrow.lt g e).2 (λe2=>Za6 h.mrow h.map (by rw[e];exact e2))
  map:=hm
  isR:=hr
  bpn:=h.bpn }
theorem CB.coder (h:CB w0 wr V b bp V.tok.length j V.mer.length tv mv D cs) (hO:VOk V) (hj:256<=j) (hf:∀ m∈V.mer,Zjn m):Coder wr b V:=by
 have hr:=h.rows;rw[Ya6]at hr;obtain⟨svs,h1,h2⟩:=hr;obtain⟨A,ca,rfl⟩:=Zac h1;obtain⟨B,cb,rfl⟩:=Zac h.mrow;obtain⟨s1,_,_⟩:=(RowsG.rows (b:=0) ⟨svs,h1,h2⟩ (Ybd _)).see (by have:=hO.tl;unfold maxLen;omega);obtain⟨s2,_⟩:=MgSee.own h.mrow rfl (by have:=hO.ml;unfold maxLen;omega) hf;have hisR:=h.isR;rw[Ya6]at hisR;exact⟨A,B,ca,cb,bp,D,cs,{
  blk:=h.blk
  c0:=h.c0
  c1:=h.c1
  cB:=λc hc=>by rw[h.cB c hc,Yag (by omega)]
  cM:=h.cM
  tok:=s1
  mer:=s2
  map:=h.map
  isR:=hisR
  mlt:=Nat.lt_trans h.bpn.2 h.blk.lt }⟩
end
end
section
open Go.RowKit Go.Maps Go.WideMaps Go.Shelf
def Zjz (w0:World) (b:Nat) (L:List Nm) (l:List Int) (k:Nat) (u:World):Prop:=
 Below w0.heap.size w0 u/\Blk u (w0.heap.size+1) 35 #[at0 b]/\∃ v,Blk u w0.heap.size 52 #[v]/\u.ownsRow (w0.heap.size+2) 3 1 v k ((Zca L l k).map i64V)
theorem Zrh (w0 u:World) (b:Nat) (L:List Nm) (l:List Int) (k:Nat) (sv:Value) (hI:Zjz w0 b L l k u) (hk:k<=1099511627776):
  Calls Tryz.prog 65 (#[sv,.int .i64 ((Zbg L l k).length:Nat)]++#[at0 w0.heap.size]) u λe u'=>e=.returned (.tuple #[])/\Zjz w0 b L l (k+1) u':=by
 obtain⟨i0,hi,hz0,hz1,hz2⟩:=info_parts Zgv;obtain⟨h1,h2,v,h3,h4⟩:=hI;obtain⟨Av,cv,rfl⟩:=Zac h4;have htx:=Zic L l k;obtain⟨a,ha⟩:=Ze ((Zbg L l k).length);rw[<- ha]at htx ⊢;have c0:=h3.cell 0;simp only[lz0,lz1]at c0;have hba:Below u.heap.size u (u.alloc (.cells #[.int .i64 (a:Nat)] 3)):=(Ybm _ u).alloc (Yar _) _;have H1:=Zh (Zaa h1 hba h1.size);have H2:=Zh (h2.below hba h2.lt);have H3:=Zh (h3.below hba h3.lt);have H4:=Zh (h4.alloc (.cells #[.int .i64 (a:Nat)] 3));have HTX:=Zh htx;have h1s:w0.heap.size+2<=u.heap.size:=h2.lt;clear h1 h2 h3 h4 htx ha hba;unfold at0;go_enter Tryz.func65,Tryz.ntmps65;go_wp2_with (at_builtin;clear c0;refine wpList_append_own_at _ rfl _ _ 52 rfl (w0.heap.size+2) 3 i0 (.int .i64 0) 1 8 Tryz.underlying52 hi hz0 hz1 hz2 rfl (by decide) _ k _ rfl H4.out ⟨u.heap.size,0,none⟩ 1 1 [.int .i64 (a:Nat)] rfl rfl Zb9 (by simp[Value.oneCell']) (by unfold maxLen;omega) (by omega) (by simp;omega) ?_;intro v3 w3 hown hgrow hnil hloc;clear hnil;obtain⟨A3,c3,hv3⟩:=Zac hown;subst hv3;have B3:=H3.out.grown hgrow (λe=>Zah H4.out H3.out (by decide) e.symm);have e3:w3.cell? ⟨w0.heap.size,0,none⟩=some (.slice Av k cv):=(by rw[B3.cell 0];rfl);have z3:=B3.frozen 0;have HO:=Zh hown;have HG:=Zh hgrow;have HB3:=Zh B3;clear hown hgrow hloc B3);go_end0;refine⟨rfl,?_,?_,.slice A3 (k+1) c3,?_,?_⟩
 ·exact(H1.out.grown HG.out H1.out.size (λk e=>by have:=(H4.out.lt k e).1;omega)).setCell (Yar _) _
 ·exact(H2.out.grown HG.out (λe=>Zah H4.out H2.out (by decide) e.symm)).far (by simp) _
 ·have:=HB3.out.set_ 0 (.slice A3 (k+1) c3)
  simpa using this
 ·rw[HTX.out,<- Zj3]
  exact Zab HO.out λg e=>Zad _ _ _ λe2=>Zah HO.out HB3.out (by decide) (by rw[e,e2])
theorem Zt1 (w:World) (b:Nat) (V:Voc) (hC:Coder w b V) (hS:∀ x∈V.tok,x.length<=4096) (C:Option Addr) (p c:Nat) (l:List Int) (hl:IntsIn w C p l) (hp:p<=1099511627776):
  Calls Tryz.prog 22 #[at0 b,.slice C p c] w (Zmy w (Zch V.tok l) (Zc8 V.tok l)):=by
 have hb1:Below w.heap.size w (w.alloc (.cells #[.slice none 0 0] 52)):=(Ybm _ w).alloc (Yar _) _;have hI0:Zjz w b V.tok l 0 ((w.alloc (.cells #[.slice none 0 0] 52)).alloc (.cells #[at0 b] 35)):=by
  refine⟨hb1.alloc (by simp) _,?_,.slice none 0 0,(Blk.new w _ _).alloc _,Yb2 _ _ _ _⟩;have:=Blk.new (w.alloc (.cells #[.slice none 0 0] 52)) 35 #[at0 b]
  simpa using this
 have hw:=Zz4 65 #[at0 w.heap.size] (enters_of Tryz.func65 (by kernel_rfl) rfl) w (w.alloc (.cells #[.slice none 0 0] 52)) b V hC hS C p c l hl hb1 (Zjz w b V.tok l) hI0 (λk u h=>by have:=h.2.1;simpa using this) (λk u h=>h.1) (λk i u A c x h1 h2 _ _ _ _=>Zrh w u b V.tok l k _ h1 (by have h5:=(Ybb.1 h2).1;have h6:=hl.len;omega));have hf:=Zvm V.tok l;obtain⟨R,hR⟩:=Ze (Zch V.tok l);rw[<- hR];unfold Zch at hR;obtain⟨E,hE⟩:=Ze (Zc8 V.tok l);unfold Zke at hw;rw[<- hE]at hw hf hR ⊢;have HRR:=Zh hR;have HW:=Zh hw;clear hR hC hS hl hb1 hI0 hw hE;unfold at0 at HW ⊢;go_enter Tryz.func22,Tryz.ntmps22;go_wp2_with fail;refine HW.out.mono ?_;rintro e w2 ⟨rfl,k,⟨h1,h2,v,h3,h4⟩,hk⟩;obtain⟨Av,cv,rfl⟩:=Zac h4;have c0:=h3.cell 0;simp only[lz0,lz1]at c0;have H1:=Zh h1;have H4:=Zh h4;have HK:=Zh hk;clear h1 h2 h3 h4 hk;by_cases he:E=0
 ·obtain rfl:0=E:=he.symm
  obtain rfl:k=l.length:=HK.out rfl;clear he;go_wp2_with fail;go_ret2;refine⟨_,rfl,?_,H1.out⟩;rw[HRR.out,Yag trivial,Zew];exact Zf5 H4.out (by omega)
 ·have d1:(E != 0)=true:=by simpa using he
  have HE:=Zh he;clear he;go_wp2_with fail;go_ret2;refine⟨_,rfl,?_,H1.out⟩;rw[HRR.out,Yaf HE.out];exact Yb2 _ _ _ _
end
end Go.Proofs.YthcjikpabpgpfaaGreat
