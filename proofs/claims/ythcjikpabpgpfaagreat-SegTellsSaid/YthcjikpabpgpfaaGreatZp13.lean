import Derived.Test.YthcjikpabpgpfaaGreatZp9
import Derived.Test.YthcjikpabpgpfaaGreatZp10
import Derived.Shelf.Abstract
import Derived.RegionTactic
import Derived.Lib.MinMax
import Derived.ChangeAlike
import Derived.StillTailTactics
import Derived.Deep.RegionHeld3
set_option linter.unusedSimpArgs false
set_option maxHeartbeats 16000000
set_option maxRecDepth 100000
namespace Go.Proofs.YthcjikpabpgpfaaGreat
section
open Go.RowKit Go.Maps Go.WideMaps
theorem Zm6 (b:List UInt8):(getP b).1.length<=4096:=by
 rcases Zse b with h|h
 ·have h1:=(Zh9 h).1
  have h2:¬ 4096<(getP b).1.length:=λh3=>by rw[Zji h3]at h1;omega
  omega
 ·rw[h]
  simp
theorem Zpy {a w:World} {B:Nat} (h:Below B a w) {p:Addr} (hp:B<=p.block) (u:Value):Below B a (w.setCell p u):=
 ⟨h.os,h.tape,h.output,by rw[Zai];exact h.size,λk hk=>(Yb5 _ _ _ k (by omega)).trans (h.block k hk)⟩
def Zne (s:List (Int×Int)) (k:Nat):Int×Int:=if k=0 then (-1,-1) else s.getD (k-1) (0,0)
theorem Zw8 (s:List (Int×Int)) (k:Nat):spAt s k=(decide ((Zne s k).1<(s.getD k (0,0)).1)&&decide ((Zne s k).2<(s.getD k (0,0)).2)):=by
 unfold spAt Zne;split<;>rfl
theorem Zux {s:List (Int×Int)} {k:Nat} {x:Int×Int} (h:s[k]?=some x):Zne s (k+1)=x:=by
 unfold Zne;rw[Yaf (by omega),Ybk,Yaw,h];rfl
theorem Zwb (w:World) (A:Option Addr) (n c:Nat) (s:List (Int×Int)) (hs:PairsIn w A n s) (hn:n<=1099511627776):
  Calls Tryz.prog 132 #[.slice A n c] w λe w'=>e=.returned (.bool (Za4 (-1) (poss s)&&Za4 (-1) (atss s)))/\Below w.heap.size w w':=by
 have HS:=Zh hs;have HLEN:=Zh hs.len;obtain⟨R,hR⟩:=Ze ((Za4 (-1) (poss s)&&Za4 (-1) (atss s)));rw[<- hR];have HR:Hid (R=true↔∀ k,k<s.length->spAt s k=true):=Zh (by rw[hR];exact spots_rise);clear hs hR;go_enter Tryz.func132,Tryz.ntmps132;go_wp2;go_loopw [9] (λi wr=>∃ k:Nat,k<=n/\i=.int .i64 k/\(∀ j,j<k->spAt s j=true)/\Below w.heap.size w wr/\Blk wr w.heap.size 64 #[.int .i64 (Zne s k).1,.int .i64 (Zne s k).2]) (λi _=>n-(intOf i).toNat);case atStart=>exact⟨0,by omega,rfl,λj hj=>by omega,(Ybm _ _).alloc (Yar _) _,Blk.new _ _ _⟩
 case round=>
  obtain⟨k,hk,rfl,hsp,hB,hblk⟩:=hrel;have HSP:=Zh hsp;have HB:=Zh hB;have HBK:=Zh hblk;obtain⟨l1,hl1⟩:=Ze ((Zne s k).1);obtain⟨l2,hl2⟩:=Ze ((Zne s k).2);rw[<- hl1,<- hl2]at HBK;have c0:=HBK.out.cell 0;have c1:=HBK.out.cell 1;have z0:=HBK.out.frozen 0;have z1:=HBK.out.frozen 1;simp at c0 c1;have hbs:=HB.out.size;have hblt:=HBK.out.lt;clear hsp hB hblk;rcases Yab k n with hlt|hge
  ·have hlt':(k:Int)<(n:Int):=by omega
   have p0:(0:Int)<=(k:Int):=by omega
   have hw5:IntKind.i64.wrap ((k:Int)+1)=(k:Int)+1:=Ybo _ (by omega);obtain⟨pa,x,rfl,hx,a0,a1,-,-⟩:=(HS.out.below HB.out).at k hlt;have hsx:=Zw8 s k;have hnl:=Zux hx;rw[<- hl1,<- hl2,Yaw,hx,Ybw]at hsx;obtain⟨x1,x2⟩:=x;simp only at a0 a1 hsx;have HNL:=Zh hnl;have HSX:=Zh hsx;clear hx hsx hnl hl1 hl2;by_cases q1:x1<=l1
   ·have d1:decide (x1<=l1)=true:=Yb0 q1
    obtain rfl:R=false:=by
     rw[Yb1];intro e;have h1:=HR.out.1 e k (by rw[HLEN.out];exact hlt);rw[HSX.out,Yal,decide_eq_true_eq,decide_eq_true_eq]at h1;omega
    go_wp2;go_ret;exact⟨rfl,HB.out.alloc HB.out.size _⟩
   ·have d1:decide (x1<=l1)=false:=Ybt q1
    by_cases q2:x2<=l2
    ·have d2:decide (x2<=l2)=true:=Yb0 q2
     obtain rfl:R=false:=by
      rw[Yb1];intro e;have h1:=HR.out.1 e k (by rw[HLEN.out];exact hlt);rw[HSX.out,Yal,decide_eq_true_eq,decide_eq_true_eq]at h1;omega
     go_wp2;go_ret;exact⟨rfl,HB.out.alloc HB.out.size _⟩
    ·have d2:decide (x2<=l2)=false:=Ybt q2
     have hgood:spAt s k=true:=by
      rw[HSX.out,Yal,decide_eq_true_eq,decide_eq_true_eq];omega
     have HG:=Zh hgood;clear hgood;go_wp2;go_roundw;case rel=>
      refine⟨k+1,by omega,by go_num,λj hj=>?_,?_,?_⟩
      ·rcases Yab j k with h1|h1
       ·exact HSP.out j h1
       ·obtain rfl:j=k:=by omega
        exact HG.out
      ·exact(Zpy (Zpy HB.out (Yar _) _) (Yar _) _).alloc (by rw[Zai,Zai];exact HB.out.size) _
      ·rw[HNL.out]
       have h1:=((HBK.out.set_ 0 (.int .i64 x1)).set_ 1 (.int .i64 x2)).alloc (.cells #[.int .i64 x1,.int .i64 x2] 64);simpa using h1
     case measure=>simp[intOf];omega
  ·obtain rfl:k=n:=by omega
   have hlz:¬ ((k:Int)<(k:Int)):=by omega
   obtain rfl:R=true:=HR.out.2 λj hj=>HSP.out j (by rw[HLEN.out]at hj;exact hj);go_wp2;go_ret;exact⟨rfl,HB.out⟩
theorem Zum (w:World) (d:Int) (B:Option Addr) (k c:Nat):Calls Tryz.prog 131 #[.agg #[.int .i64 d,.slice B k c]] w λe w'=>e=.returned (.bool (decide (4096<k)))/\Below w.heap.size w w':=by
 have hd:decide ((4096:Int)<(k:Int))=decide (4096<k):=decide_eq_decide.2 (by omega);go_enter Tryz.func131,Tryz.ntmps131;go_wp2;go_ret;exact⟨by rw[<- hd];rfl,(Ybm _ _).alloc (Yar _) _⟩
theorem Qbq (w:World) (A:Option Addr) (n c:Nat) (l:List Pst) (h:PostsSee w A n l) (hn:n<=4096):
  Calls Tryz.prog 172 #[.slice A n c,.func (.func 131) #[] #[]] w λe w'=>∃ r:Int,e=.returned (.int .i64 r)/\decide (0<=r)=Zcv l n/\Below w.heap.size w w':=by
 have HP:=Zh h;have HLEN:=Zh h.len;obtain⟨R,hR⟩:=Ze (Zcv l n);rw[<- hR];have HR:=Zh hR;clear h hR;go_enter Tryz.func172,Tryz.ntmps172;go_wp2;go_loopw [8] (λi wr=>∃ k:Nat,k<=n/\i=.int .i64 k/\Zcv l k=false/\Below w.heap.size w wr) (λi _=>n-(intOf i).toNat);case atStart=>exact⟨0,by omega,rfl,rfl,Ybm _ _⟩
 case round=>
  obtain⟨k,hk,rfl,hmu,hB⟩:=hrel;have HMU:=Zh hmu;have HB:=Zh hB;clear hmu hB;rcases Yab k n with hlt|hge
  ·have hlt':(k:Int)<(n:Int):=by omega
   have p0:(0:Int)<=(k:Int):=by omega
   have hw5:IntKind.i64.wrap ((k:Int)+1)=(k:Int)+1:=Ybo _ (by omega);obtain⟨pa,x,SA,da,rfl,hx,-,a0,a1,-,-⟩:=(HP.out.below HB.out).at k hlt;have HPX:=Zh (Zef hx);obtain⟨x1,x2⟩:=x;simp only at a0 a1;obtain⟨m,hm⟩:=Ze x2.length;rw[<- hm]at a1;have HM:=Zh hm;clear hx hm;go_wp2_with fail;refine(Zum wr x1 SA m da).mono ?_;rintro e w2 ⟨rfl,hb2⟩;have HB2:=Zh (Zaa HB.out hb2 HB.out.size);clear hb2;by_cases hsp:4096<m
   ·have d1:decide (4096<m)=true:=Yb0 hsp
    have hfin:R=true:=by
     rw[HR.out];cases hm:Zcv l n with
     | true=>rfl
     | false=>have h1:=manyUp_iff.1 hm k hlt;rw[HPX.out,<- HM.out]at h1;omega
    rw[d1];go_wp2;go_ret;exact⟨_,rfl,by rw[hfin];exact Yb0 p0,HB2.out⟩
   ·have d1:decide (4096<m)=false:=Ybt hsp
    have hnx:Zcv l (k+1)=false:=by rw[Zcv,HMU.out,HPX.out,<- HM.out,d1];rfl
    have HNX:=Zh hnx;rw[d1];clear hnx d1;go_wp2;go_roundw;case rel=>exact⟨k+1,by omega,by go_num,HNX.out,HB2.out⟩
    case measure=>simp[intOf];omega
  ·obtain rfl:k=n:=by omega
   have hlz:¬ ((k:Int)<(k:Int)):=by omega
   obtain rfl:R=false:=by rw[HR.out];exact HMU.out
   go_wp2;go_ret;exact⟨_,rfl,by first|rfl|simp,HB.out⟩
theorem Zzd (w:World) (A:Option Addr) (n c:Nat) (l:List Pst) (h:PostsSee w A n l) (hn:n<=4096):
  Calls Tryz.prog 130 #[.slice A n c,.func (.func 131) #[] #[]] w λe w'=>e=.returned (.bool (Zcv l n))/\Below w.heap.size w w':=by
 have HC:=Zh (Qbq w A n c l h hn);clear h;go_enter Tryz.func130,Tryz.ntmps130;go_wp2_with fail;refine HC.out.mono ?_;rintro e w2 ⟨r,rfl,hr,hb⟩;have HB:=Zh hb;have HR:=Zh hr;clear hb hr;go_wp2;go_ret;exact⟨congrArg (λx=>Ending.returned (.bool x)) HR.out,HB.out⟩
theorem Zo1 (w:World) (A:Option Addr) (n c:Nat) (l:List Pst) (h:PostsSee w A n l) (hn:n<=1000000):
  Calls Tryz.prog 80 #[.slice A n c] w λe w'=>e=.returned (.bool (decide (Zb3 l=2)))/\Below w.heap.size w w':=by
 have hlen:=h.len;by_cases hm:4096<n
 ·have d1:decide ((4096:Int)<(n:Int))=true:=Yb0 (by omega)
  have hr:Zb3 l=2:=Zji (by omega);rw[hr];clear h hlen hr;go_enter Tryz.func80,Tryz.ntmps80;go_wp2;go_ret;exact⟨rfl,Ybm _ _⟩
 ·have d1:decide ((4096:Int)<(n:Int))=false:=Ybt (by omega)
  have HC:=Zh (Zzd w A n c l h (by omega));have hr:decide (Zb3 l=2)=Zcv l n:=by
   rw[<- hlen];unfold Zb3;rw[Yaf (by omega)];cases Zcv l l.length with
   | true=>rfl
   | false=>cases okUp l l.length<;>rfl
  rw[hr];clear h hlen hr;go_enter Tryz.func80,Tryz.ntmps80;go_wp2_with fail;refine HC.out.mono ?_;rintro e w2 ⟨rfl,hb⟩;have HB:=Zh hb;clear hb;go_wp2;go_ret;exact⟨rfl,HB.out⟩
theorem Zvy (w:World) (A:Option Addr) (n c:Nat) (l:List Pst) (h:PostsSee w A n l) (hn:n<=4096) (hs:∀ x∈l,x.2.length<=4096):
  Calls Tryz.prog 81 #[.slice A n c] w λe w'=>e=.returned (.bool (okUp l n))/\Below w.heap.size w w':=by
 have HP:=Zh h;have HLEN:=Zh h.len;have HSL:=Zh hs;obtain⟨R,hR⟩:=Ze (okUp l n);rw[<- hR];have HR:Hid (R=true↔∀ i,i<n->okAt l i=true):=Zh (by rw[hR];exact okUp_iff);clear h hR hs;go_enter Tryz.func81,Tryz.ntmps81;go_wp2;go_loopw [3,8] (λv i wr=>∃ (k:Nat) (la:Int),k<=n/\i=.int .i64 k/\v=.int .i64 la/\la=Zaq l k/\-1<=la/\(∀ j,j<k->okAt l j=true)/\Below w.heap.size w wr) (λ_ i _=>n-(intOf i).toNat);case atStart=>exact⟨0,-1,by omega,rfl,rfl,rfl,by omega,λj hj=>by omega,Ybm _ _⟩
 case round=>
  obtain⟨k,la,hk,rfl,rfl,hla,hla1,hok,hB⟩:=hrel;have HOK:=Zh hok;have HLA:=Zh hla;have HB:=Zh hB;clear hok hla hB;rcases Yab k n with hlt|hge
  ·have hlt':(k:Int)<(n:Int):=by omega
   have p0:(0:Int)<=(k:Int):=by omega
   have hw5:IntKind.i64.wrap ((k:Int)+1)=(k:Int)+1:=Ybo _ (by omega);obtain⟨pa,x,SA,da,rfl,hx,-,a0,a1,-,sa⟩:=(HP.out.below HB.out).at k hlt;have hpx:=Zef hx;have hxl:=HSL.out x (Ybz hx);obtain⟨x1,x2⟩:=x;simp only at a0 a1 sa hxl;have hbad:okAt l k=false->R=false:=λe=>by
    rw[Yb1];intro h1;rw[HR.out.1 h1 k hlt]at e;cases e
   have hat:okAt l k=true↔la<x1/\x1<=4294967296/\0<x2.length/\(Za4 (-1) (poss x2)&&Za4 (-1) (atss x2))=true:=by
    rw[okAt_iff,hpx,<- HLA.out,Yal];simp only;constructor
    ·rintro⟨h1,h2,h3,h4,h5,h6⟩;exact⟨h3,h2,h4,h5,h6⟩
    ·rintro⟨h1,h2,h3,h4,h5⟩;exact⟨by omega,h2,h1,h3,h4,h5⟩
   have hnl:Zaq l (k+1)=x1:=by unfold Zaq;rw[Yaf (by omega),Ybk,hpx]
   have HAT:=Zh hat;have HNL:=Zh hnl;have HBAD:=Zh hbad;have hb1:Below wr.heap.size wr (wr.alloc (.cells #[.int .i64 x1,.slice SA x2.length da] 62)):=(Ybm _ wr).alloc (Yar _) _;have HSA:=Zh (sa.below hb1);have HB1:=Zh (Zaa HB.out hb1 HB.out.size);clear hx hpx sa hbad hat hnl hb1;by_cases q1:x1<=la
   ·have d1:decide (x1<=la)=true:=Yb0 q1
    obtain rfl:R=false:=HBAD.out (by rw[Yb1];intro e;have:=(HAT.out.1 e).1;omega);go_wp2;go_ret;exact⟨rfl,HB1.out⟩
   ·have d1:decide (x1<=la)=false:=Ybt q1
    by_cases q2:4294967296<x1
    ·have d2:decide ((4294967296:Int)<x1)=true:=Yb0 q2
     obtain rfl:R=false:=HBAD.out (by rw[Yb1];intro e;have:=(HAT.out.1 e).2.1;omega);go_wp2;go_ret;exact⟨rfl,HB1.out⟩
    ·have d2:decide ((4294967296:Int)<x1)=false:=Ybt q2
     by_cases q3:x2.length=0
     ·have d3:((x2.length:Int)==0)=true:=by rw[q3];rfl
      obtain rfl:R=false:=HBAD.out (by rw[Yb1];intro e;have:=(HAT.out.1 e).2.2.1;omega);have Q3:=Zh q3;clear q3;go_wp2;go_ret;exact⟨rfl,HB1.out⟩
     ·have d3:((x2.length:Int)==0)=false:=beq_eq_false_iff_ne.2 (λe=>q3 (by omega))
      have Q3:=Zh q3;clear q3;go_wp2_with fail;refine(Zwb _ SA x2.length da x2 HSA.out (by omega)).mono ?_;rintro e w2 ⟨rfl,hb2⟩;have t0:w2.cell? ⟨wr.heap.size,0,none⟩=some (.int .i64 x1):=Zag hb2 ((Blk.new wr 62 #[.int .i64 x1,.slice SA x2.length da]).cell 0);have HB2:=Zh (Zaa HB1.out hb2 HB1.out.size);clear hb2;obtain⟨g,hg⟩:=Ze ((Za4 (-1) (poss x2)&&Za4 (-1) (atss x2)));rw[<- hg];have HG:=Zh hg;clear hg;cases g with
      | false=>
       obtain rfl:R=false:=HBAD.out (by rw[Yb1];intro e;have:=(HAT.out.1 e).2.2.2;rw[<- HG.out]at this;cases this);go_wp2;go_ret;exact⟨rfl,HB2.out⟩
      | true=>
       have hgood:okAt l k=true:=HAT.out.2 ⟨by omega,by omega,by have:=Q3.out;omega,HG.out.symm⟩;have HGD:=Zh hgood;clear hgood;go_wp2;go_roundw;case rel=>
        exact⟨k+1,x1,by omega,by go_num,rfl,HNL.out.symm,by omega,λj hj=>by
         rcases Yab j k with h1|h1
         ·exact HOK.out j h1
         ·obtain rfl:j=k:=by omega
          exact HGD.out,HB2.out⟩
       case measure=>simp[intOf];omega
  ·obtain rfl:k=n:=by omega
   have hlz:¬ ((k:Int)<(k:Int)):=by omega
   obtain rfl:R=true:=HR.out.2 HOK.out;go_wp2;go_ret;exact⟨rfl,HB.out⟩
theorem Zsl (w:World) (A:Option Addr) (n c:Nat) (l:List Pst) (h:PostsSee w A n l) (hn:n<=4096) (hV:ValidP l) (f t:Nat) (hft:f<t) (ht:t<=n) (hup:Zaq l f<(pAt l (t-1)).1):
  Calls Tryz.prog 83 #[.slice A n c,.int .i64 f,.int .i64 t] w λe w'=>∃ v,e=.returned v/\w'.ownsRow w.heap.size 5 1 v (putL ((pAt l (t-1)).1-Zaq l f-1).toNat).length ((putL ((pAt l (t-1)).1-Zaq l f-1).toNat).map byteV)/\Below w.heap.size w w':=by
 have hlen:=h.len;obtain⟨T,hT⟩:∃ T,t=T+1:=⟨t-1,by omega⟩
 obtain⟨pa,x,SA,da,rfl,hx,-,a0,-,-,-⟩:=h.at T (by omega);have hpx:pAt l (t-1)=x:=by rw[hT,Ybk];exact Zef hx
 have q1:=hV.docs _ (Zay (show t-1<l.length by omega));have q2:=hV.last (show f<=l.length by omega);rw[hpx]at hup q1 ⊢;obtain⟨x1,x2⟩:=x;simp only at a0 hup q1;have hwt:IntKind.i64.wrap ((t:Int)-1)=(T:Int):=by rw[show(t:Int)-1=(T:Int) by omega];exact Ybo _ (by omega)
 have p0:(0:Int)<=(T:Int):=by omega
 have p1:(T:Int)<(n:Int):=by omega
 obtain⟨b,hb⟩:=Ze (Zaq l f);rw[<- hb]at hup q2 ⊢;obtain⟨D,hD⟩:=Ze ((x1-b-1).toNat);have hs1:IntKind.i64.wrap (x1-b)=x1-b:=Ybo _ (by omega);have hs2:IntKind.i64.wrap (x1-b-1)=(D:Int):=by rw[show x1-b-1=(D:Int) by omega];exact Ybo _ (by omega)
 have hs3:IntKind.u64.wrap (D:Int)=(D:Int):=IntWalk.u64_in _ (by omega);have hD64:D<18446744073709551616:=by omega
 rw[<- hD];clear hpx hT hx hV;by_cases hf0:f=0
 ·subst hf0
  obtain rfl:b=-1:=by rw[hb];rfl
  obtain rfl:x1=(D:Int):=by omega
  have hs4:IntKind.i64.wrap ((D:Int)+1)=(D:Int)+1:=Ybo _ (by omega);have hs5:IntKind.i64.wrap (D:Int)=(D:Int):=Ybo _ (by omega);clear hb h hD hs1 hs2;go_enter Tryz.func83,Tryz.ntmps83;go_wp2_with fail;refine(Zff w D hD64).mono ?_;rintro e w2 ⟨v,rfl,ho,hb⟩;have HO:=Zh ho;have HB:=Zh hb;clear ho hb;go_wp2;go_ret;exact⟨v,rfl,HO.out,HB.out⟩
 ·obtain⟨F,hF⟩:∃ F,f=F+1:=⟨f-1,by omega⟩
  obtain⟨pb,y,SB,db,hpb,hy,-,b0,-,-,-⟩:=h.at F (by omega);obtain rfl:=Ya9 hpb;obtain rfl:b=y.1:=by rw[hb];unfold Zaq;rw[Yaf hf0,hF,Ybk,Zef hy]
  obtain⟨y1,y2⟩:=y;simp only at b0 hup q2 hs1 hs2;have hwf:IntKind.i64.wrap ((f:Int)-1)=(F:Int):=by rw[show(f:Int)-1=(F:Int) by omega];exact Ybo _ (by omega)
  have p2:(0:Int)<=(F:Int):=by omega
  have p3:(F:Int)<(n:Int):=by omega
  have p4:(0:Int)<(f:Int):=by omega
  have d1:decide ((0:Int)<(f:Int))=true:=Yb0 p4;clear hb h hF hy hpb hf0 hD;go_enter Tryz.func83,Tryz.ntmps83;go_wp2_with fail;refine(Zff w D hD64).mono ?_;rintro e w2 ⟨v,rfl,ho,hb⟩;have HO:=Zh ho;have HB:=Zh hb;clear ho hb;go_wp2;go_ret;exact⟨v,rfl,HO.out,HB.out⟩
theorem Qe5 {A A' B:Option Nat} {s:Nat} (h:∀ g,A=some g->B≠some g) (hl:A'=A\/A'=some s) (hB:∀ g,B=some g->g<s):∀ g,A'=some g->B≠some g:=by
 rcases hl with rfl|rfl
 ·exact h
 ·intro g e1 e2
  have:=hB g e2
  have:=Ya9 e1
  omega
theorem Qfd {A B B':Option Nat} {s:Nat} (h:∀ g,A=some g->B≠some g) (hl:B'=B\/B'=some s) (hA:∀ g,A=some g->g<s):∀ g,A=some g->B'≠some g:=by
 rcases hl with rfl|rfl
 ·exact h
 ·intro g e1 e2
  have:=hA g e1
  have:=Ya9 e2
  omega
theorem Zpo (w:World) (o:Obj) (e:TypeId) (x:Int):Src ((w.alloc o).alloc (.cells #[.int .i64 x] e)) (some ⟨w.heap.size+1,0,none⟩) 1 ([x].map i64V):=by
 have:=Zbe (w.alloc o) e x
 rwa [World.size_alloc]at this
theorem Zvp (w:World) (A:Option Addr) (n c:Nat) (s:List (Int×Int)) (hs:PairsIn w A n s) (hn:n<=4096) (hp:Za4 (-1) (poss s)=true) (ha:Za4 (-1) (atss s)=true):
  Calls Tryz.prog 84 #[.slice A n c] w λe w'=>∃ v,e=.returned v/\w'.ownsRow w.heap.size 5 1 v (putR (poss s)++putR (atss s)).length ((putR (poss s)++putR (atss s)).map byteV)/\Below w.heap.size w w':=by
 obtain⟨i0,hi,hz0,hz1,hz2⟩:=info_parts Zj7;have HS:=Zh hs;have HLEN:=Zh hs.len;have HV:=Zh hs.vals;obtain⟨P,hP⟩:=Ze (poss s);obtain⟨Q,hQ⟩:=Ze (atss s);rw[<- hP]at hp;rw[<- hQ]at ha;rw[<- hP,<- hQ];have HPE:=Zh hP;have HQE:=Zh hQ;have HRP:=Zh hp;have HRQ:=Zh ha;have hPl:P.length=n:=by rw[hP,(Zcx s).1];exact hs.len
 have hQl:Q.length=n:=by rw[hQ,(Zcx s).2];exact hs.len
 have HPL:=Zh hPl;have HQL:=Zh hQl;clear hs hP hQ hp ha hPl hQl;go_enter Tryz.func84,Tryz.ntmps84;go_wp2;go_loopw [3,4,13] (λv u i wr=>∃ k:Nat,k<=n/\i=.int .i64 k/\wr.ownsRow w.heap.size 2 1 v k ((P.take k).map i64V)/\wr.ownsRow w.heap.size 2 1 u k ((Q.take k).map i64V)/\(∀ g,v.ownBlock=some g->u.ownBlock≠some g)/\Below w.heap.size w wr) (λ_ _ i _=>n-(intOf i).toNat);case atStart=>exact⟨0,by omega,rfl,⟨rfl,.inl ⟨rfl,rfl⟩⟩,⟨rfl,.inl ⟨rfl,rfl⟩⟩,(λg e=>by cases e),Ybm _ _⟩
 case round=>
  obtain⟨k,hk,rfl,hO,hU,hne,hB⟩:=hrel;have HO:=Zh hO;have HU:=Zh hU;have HNE:=Zh hne;have HB:=Zh hB;clear hO hU hne hB;obtain⟨Av,cv,hv⟩:=Zac HO.out;obtain⟨Au,cu,hu⟩:=Zac HU.out;subst hv hu;rcases Yab k n with hlt|hge
  ·have hlt':(k:Int)<(n:Int):=by omega
   have p0:(0:Int)<=(k:Int):=by omega
   have hw5:IntKind.i64.wrap ((k:Int)+1)=(k:Int)+1:=Ybo _ (by omega);obtain⟨pa,x,rfl,hx,a0,a1,-,-⟩:=(HS.out.below HB.out).at k hlt;obtain⟨x1,x2⟩:=x;simp only at a0 a1;have HPT:Hid (P.take (k+1)=P.take k++[x1]):=Zh (by rw[Ya5,HPE.out];simp[poss,hx]);have HQT:Hid (Q.take (k+1)=Q.take k++[x2]):=Zh (by rw[Ya5,HQE.out];simp[atss,hx]);clear hx;have hsz:=HB.out.size;go_wp2_with ((at_builtin;refine Zae _ rfl (.tmp 17) (.tmp 20) 196 rfl w.heap.size 2 i0 (.int .i64 0) 8 Tryz.underlying196 hi hz0 hz1 hz2 rfl _ k _ rfl (Yb6 (Yb6 HO.out _) _) _ 1 1 _ rfl (Zpo wr _ 2 x1) (Zco [x1]) (by unfold maxLen;omega) (by omega) (by simp;omega) ?_;intro v3 w3 hown hgrow hloc;obtain⟨A3,c3,hv3⟩:=Zac hown;subst hv3;have HO3:=Zh hown;have HU3:=Zh (Zab (Yb6 (Yb6 HU.out (.cells #[.int .i64 x1,.int .i64 x2] 64)) (.cells #[.int .i64 x1] 2)) (w':=w3) λg hg=>hgrow.block g (by have:=(HU.out.lt g hg).2;simp;omega) (λe=>HNE.out g e.symm hg));have HB3:=Zh (((HB.out.alloc HB.out.size (.cells #[.int .i64 x1,.int .i64 x2] 64)).alloc (by simp;omega) (.cells #[.int .i64 x1] 2)).grown hgrow (by simp;omega) (λg hg=>(HO.out.lt g hg).1));have t1:w3.cell? ⟨wr.heap.size,1,none⟩=some (.int .i64 x2):=(((Blk.new wr 64 #[.int .i64 x1,.int .i64 x2]).alloc (.cells #[.int .i64 x1] 2)).grown hgrow (λe=>by have:=(HO.out.lt _ e.symm).2;omega)).cell 1;have HNE3:Hid (∀ g,(Value.slice A3 (k+1) c3).ownBlock=some g->(Value.slice Au k cu).ownBlock≠some g):=Zh (Qe5 HNE.out hloc (λg e=>by have:=(HU.out.lt g e).2;simp;omega));have hsz3:=HB3.out.size;clear hown hgrow hloc;go_wp2_with (at_builtin;refine Zae _ rfl (.tmp 22) (.tmp 25) 196 rfl w.heap.size 2 i0 (.int .i64 0) 8 Tryz.underlying196 hi hz0 hz1 hz2 rfl _ k _ rfl (Yb6 HU3.out _) _ 1 1 _ rfl (Zbe _ 2 x2) (Zco [x2]) (by unfold maxLen;omega) (by omega) (by simp;omega) ?_;intro v4 w4 hown hgrow hloc;obtain⟨A4,c4,hv4⟩:=Zac hown;subst hv4;have HU4:=Zh hown;have HO4:=Zh (Zab (Yb6 HO3.out (.cells #[.int .i64 x2] 2)) (w':=w4) λg hg=>hgrow.block g (by have:=(HO3.out.lt g hg).2;simp;omega) (λe=>HNE3.out g hg e.symm));have HB4:=Zh ((HB3.out.alloc HB3.out.size (.cells #[.int .i64 x2] 2)).grown hgrow (by simp;omega) (λg hg=>(HU3.out.lt g hg).1));have HNE4:Hid (∀ g,(Value.slice A3 (k+1) c3).ownBlock=some g->(Value.slice A4 (k+1) c4).ownBlock≠some g):=Zh (Qfd HNE3.out hloc (λg e=>by have:=(HO3.out.lt g e).2;simp;omega));clear hown hgrow hloc)));go_roundw;case rel=>
    refine⟨k+1,by omega,by go_num,?_,?_,HNE4.out,HB4.out⟩
    ·rw[HPT.out,Ybe];exact HO4.out
    ·rw[HQT.out,Ybe];exact HU4.out
   case measure=>simp[intOf];omega
  ·obtain rfl:k=n:=by omega
   have hlz:¬ ((k:Int)<(k:Int)):=by omega
   have t1:P.take k=P:=Yav (by rw[HPL.out];exact Yar _);have t2:Q.take k=Q:=Yav (by rw[HQL.out];exact Yar _);rw[t1]at HO;rw[t2]at HU;have HOI:=Zh (IntsIn.own HO.out (by unfold maxLen;omega) (λx hx=>by
    rw[HPE.out]at hx;obtain⟨y,hy,rfl⟩:=Yaz.1 hx;have:=(HV.out y hy).1
    unfold Zaj at this;exact this))
   have HUI:=Zh (IntsIn.own HU.out (by unfold maxLen;omega) (λx hx=>by
    rw[HQE.out]at hx;obtain⟨y,hy,rfl⟩:=Yaz.1 hx;have:=(HV.out y hy).2
    unfold Zaj at this;exact this))
   have hpl:=Zep (by rw[HPL.out];omega) HRP.out (λx hx=>by
    rw[HPE.out]at hx;obtain⟨y,hy,rfl⟩:=Yaz.1 hx;have:=(HV.out y hy).1
    unfold Zaj at this;exact this.2)
   have hql:=Zep (by rw[HQL.out];omega) HRQ.out (λx hx=>by
    rw[HQE.out]at hx;obtain⟨y,hy,rfl⟩:=Yaz.1 hx;have:=(HV.out y hy).2
    unfold Zaj at this;exact this.2)
   have hpos:=Zeo P.length;have hp0:0<(putR P).length:=by unfold putR;rw[Yaq];omega
   clear t1 t2 hpos;go_wp2_with fail;refine(Zg9 wr Av k cv P HOI.out (by omega)).mono ?_;rintro e w2 ⟨v2,n2,rfl,hb2,ho2⟩;obtain⟨rfl,hq2⟩:n2=0/\w2.ownsRow wr.heap.size 5 1 v2 (putR P).length ((putR P).map byteV):=by
    rcases ho2 with⟨_,h2,h3⟩|⟨h1,_⟩
    ·exact⟨h2,h3⟩
    ·rw[HRP.out]at h1;cases h1
   obtain⟨A2,c2,rfl,hc2⟩:=Za0 hq2;have HB2:=Zh (Zaa HB.out hb2 HB.out.size);have HX2:=Zh (BytesIn.own hq2 (by unfold maxLen;omega));have HUI2:=Zh (HUI.out.below hb2);clear hb2 ho2 hq2;go_wp2_with fail;refine(Zg9 w2 Au k cu Q HUI2.out (by omega)).mono ?_;rintro e w3 ⟨v3,n3,rfl,hb3,ho3⟩;obtain⟨rfl,hq3⟩:n3=0/\w3.ownsRow w2.heap.size 5 1 v3 (putR Q).length ((putR Q).map byteV):=by
    rcases ho3 with⟨_,h2,h3⟩|⟨h1,_⟩
    ·exact⟨h2,h3⟩
    ·rw[HRQ.out]at h1;cases h1
   obtain⟨A3,c3,rfl,hc3⟩:=Za0 hq3;have HB3:=Zh (Zaa HB2.out hb3 HB2.out.size);have HX3:=Zh (HX2.out.below hb3);have HY3:=Zh (BytesIn.own hq3 (by unfold maxLen;omega));clear hb3 ho3 hq3;go_wp2_with fail;refine(Zdp _ _ 2 2 _ (Zzh w3 A2 A3 c2 c3 (putR P) (putR Q) HX3.out HY3.out hc2 hc3) (by simp;omega) (by simp;omega) (by omega)).mono ?_;rintro e w4 ⟨v4,rfl,ho4,hb4⟩;have HB4:=Zh (Zaa (HB3.out.alloc HB3.out.size _) hb4 (by have:=HB3.out.size;simp;omega));have HO4:=Zh (Zcq (base':=w.heap.size) ho4 (by have:=HB3.out.size;simp;omega));clear ho4 hb4;go_wp2;go_ret;exact⟨v4,rfl,by simpa using HO4.out,HB4.out⟩
end
section
open Go.RowKit Go.Maps Go.WideMaps Go.Shelf
def RetB (w:World) (x:Nm) (e:Ending) (w':World):Prop:=∃ v,e=.returned v/\w'.ownsRow w.heap.size 5 1 v x.length (x.map byteV)/\Below w.heap.size w w'
theorem Zr7 {w:World} {ga ge g7 g8 g9 a e fo fa:Nat} {co ca:Array Value} {A:Option Addr} {k c:Nat} {x:Nm} (ha:Blk w ga 3 #[.int .i64 a]) (he:Blk w ge 3 #[.int .i64 e]) (h7:Blk w g7 82 #[.func (.func fo) #[] co]) (h8:Blk w g8 162 #[.func (.func fa) #[] ca]) (h9:Blk w g9 52 #[.slice A k c]) (hk:0<k)
  (hin:Calls Tryz.prog 86 #[.int .i64 a,.int .i64 e,.func (.func fo) #[] co,.func (.func fa) #[] ca,.slice (Zak A 1 c) (k-1) (c-1)] w.drew (RetB w x)):
  Calls Tryz.prog 134 #[at0 ga,at0 ge,at0 g7,at0 g8,at0 g9] w (RetB w x):=by
 have a0:=ha.drew.cell 0;have e0:=he.drew.cell 0;have f0:=h7.drew.cell 0;have r0:=h8.drew.cell 0;have s0:=h9.drew.cell 0;simp at a0 e0 f0 r0 s0;have hsl:∀ w,(Instr.slice 52 (.slice A k c) (some (.int .i64 1)) none none).run Tryz.prog w=.ok (.slice (Zak A 1 c) (k-1) (c-1)) w:=λw=>by
  have:=Zoq w A k c 1 (by omega)
  simpa using this
 have HIN:=Zh hin;clear ha he h7 h8 h9 hin;unfold at0;go_enter Tryz.func134,Tryz.ntmps134;go_wp2_with fail;go_still_tail 6,(by kernel_rfl);change wpList _ _ _ _ _ w.drew;go_wp2_with fail;refine HIN.out.mono ?_;rintro e w2 ⟨v,rfl,ho,hb⟩;have HO:=Zh ho;have HB:=Zh hb;clear ho hb;go_wp2;go_ret;exact⟨v,rfl,HO.out,HB.out⟩
theorem Zsk (wB:World) (fo fa:Nat) (co ca:Array Value) (ega:∀ args w,(callFunc fa args).run Tryz.prog w=.ok (.enter fa args) w) (ad:Addr) (k c s:Nat) (hk:0<k) (hs0:0<s) (hs:s<=16) (hcell:wB.cell? ad=some (.int .i64 s))
  (f t:Nat) (hft:f<=t) (ht:t<=4096) (P:Nat->Prop) (G X:Nat->Nm) (hP0:P f) (hPs:∀ a,P a->a<t->P (a+s)) (hG0:G f=[]) (hGs:∀ a,P a->a<t->G (min (a+s) t)=G a++X a) (hGl:∀ a,a<=t->(G a).length<=1099511627776)
  (har:∀ (w:World) (a ga ge g7 g8 g9:Nat),Below wB.heap.size wB w->P a->a<t->Blk w ga 3 #[.int .i64 a]->Blk w ge 3 #[.int .i64 (min (a+s) t:Nat)]->Blk w g7 82 #[.func (.func fo) #[] co]->Blk w g8 162 #[.func (.func fa) #[] ca]->Blk w g9 52 #[.slice (some ad) k c]->
   Calls Tryz.prog fa (#[.int .i64 a,.int .i64 (min (a+s) t:Nat),.func (.func 134) #[] #[at0 ga,at0 ge,at0 g7,at0 g8,at0 g9]]++ca) w (RetB w (X a)))
  (w:World) (hw:Below wB.heap.size wB w):
  Calls Tryz.prog 86 #[.int .i64 f,.int .i64 t,.func (.func fo) #[] co,.func (.func fa) #[] ca,.slice (some ad) k c] w (RetB w (G t)):=by
 obtain⟨i0,hi,hz0,hz1,hz2⟩:=info_parts Za9;have HC:=Zh hcell;have HW:=Zh hw;have HAR:=Zh har;have HPS:=Zh hPs;have HGS:=Zh hGs;have HGL:=Zh hGl;have HG0:=Zh hG0;have HP0:=Zh hP0;have d0:((k:Int)==0)=false:=beq_eq_false_iff_ne.2 (by omega);clear hcell hw har hPs hGs hGl hG0 hP0;go_enter Tryz.func86,Tryz.ntmps86;go_wp2;go_loopw [11,13] (λv p wr=>∃ (a g:Nat) (y:Nm),p=at0 g/\P a/\f<=a/\a<=t+16/\y=G (min a t)/\wr.ownsRow (w.heap.size+3) 5 1 v y.length (y.map byteV)/\(∀ i,v.ownBlock=some i->i≠g)/\w.heap.size+3<=g/\Blk wr g 3 #[.int .i64 a]/\Below w.heap.size w wr/\Blk wr w.heap.size 82 #[.func (.func fo) #[] co]/\Blk wr (w.heap.size+1) 162 #[.func (.func fa) #[] ca]/\Blk wr (w.heap.size+1+1) 52 #[.slice (some ad) k c]) (λ_ p wr=>t+16-Zfu wr p);case atStart=>
  have b1:=Blk.new w 82 #[.func (.func fo) #[] co];have b2:=Blk.new (w.alloc (.cells #[.func (.func fo) #[] co] 82)) 162 #[.func (.func fa) #[] ca];have b3:=Blk.new ((w.alloc (.cells #[.func (.func fo) #[] co] 82)).alloc (.cells #[.func (.func fa) #[] ca] 162)) 52 #[.slice (some ad) k c];have b4:=Blk.new (((w.alloc (.cells #[.func (.func fo) #[] co] 82)).alloc (.cells #[.func (.func fa) #[] ca] 162)).alloc (.cells #[.slice (some ad) k c] 52)) 3 #[.int .i64 (f:Int)];simp only[World.size_alloc]at b2 b3 b4;exact⟨f,w.heap.size+1+1+1,[],rfl,HP0.out,Yar _,by omega,by rw[Yb7 hft,HG0.out],⟨rfl,.inl ⟨rfl,rfl⟩⟩,(λi e=>by cases e),by omega,b4,(((((Ybm _ w).alloc (Yar _) _).alloc (by simp) _).alloc (by simp;omega) _).alloc (by simp;omega) _),((b1.alloc _).alloc _).alloc _,(b2.alloc _).alloc _,b3.alloc _⟩
 case round=>
  obtain⟨a,g,y,rfl,hp,hfa,hat,hy,hO,hne,hg,hG,hB,h7,h8,h9⟩:=hrel;have HPA:=Zh hp;have HY:=Zh hy;have HO:=Zh hO;have HNE:=Zh hne;have HGK:=Zh hG;have HB:=Zh hB;have H7:=Zh h7;have H8:=Zh h8;have H9:=Zh h9;have c0:=hG.cell 0;have c7:=h7.cell 0;have c8:=h8.cell 0;have c9:=h9.cell 0;have cs:=Zag (HW.out.trans (hB.mono HW.out.size)) HC.out;simp at c0 c7 c8 c9;clear hp hy hO hne hG hB h7 h8 h9;obtain⟨Av,cv,hv⟩:=Zac HO.out;subst hv;unfold at0;rcases Yab a t with hlt|hge
  ·have hlt':(a:Int)<(t:Int):=by omega
   obtain⟨E,hE⟩:=Ze (min (a+s) t);have hmin:∀ w ty,(Builtin.min_ #[3,3] ty #[.int .i64 ((a:Int)+(s:Int)),.int .i64 (t:Int)]).run Tryz.prog w=.ok (.int .i64 (E:Int)) w:=λw ty=>by
    rw[Lib.run_min_ints,show min ((a:Int)+(s:Int)) (t:Int)=(E:Int) by omega]
   have hw1:IntKind.i64.wrap ((a:Int)+(s:Int))=(a:Int)+(s:Int):=Ybo _ (by omega);have k0:(0:Int)<(k:Int):=by omega
   have a0:ad.add 0=ad:=by simp[Addr.add]
   have HE:=Zh hE;clear hE;have u0:(wr.alloc (.cells #[.int .i64 0] 3)).cell? ⟨g,0,none⟩=some (.int .i64 a):=(HGK.out.alloc _).cell 0;have u9:(wr.alloc (.cells #[.int .i64 0] 3)).cell? ⟨w.heap.size+1+1,0,none⟩=some (.slice (some ad) k c):=(H9.out.alloc _).cell 0;have us:(wr.alloc (.cells #[.int .i64 0] 3)).cell? ad=some (.int .i64 s):=Zag ((Ybm _ wr).alloc (Yar _) _) cs;go_wp2_with fail;go_region;obtain⟨W1,hW1⟩:=Ze ((wr.alloc (.cells #[.int .i64 (E:Int)] 3)).drew);rw[<- hW1];have hb1:Below wr.heap.size wr W1:=by rw[hW1];exact((Ybm _ wr).alloc (Yar _) _).drew
   have HEK:Hid (Blk W1 wr.heap.size 3 #[.int .i64 (E:Int)]):=Zh (by rw[hW1];exact(Blk.new _ _ _).drew);have HB1:=Zh hb1;have HG1:=Zh (HGK.out.below hb1 HGK.out.lt);have H71:=Zh (H7.out.below hb1 H7.out.lt);have H81:=Zh (H8.out.below hb1 H8.out.lt);have H91:=Zh (H9.out.below hb1 H9.out.lt);have HO1:=Zh (Zab HO.out (w':=W1) λi e=>hb1.block i (HO.out.lt i e).2);have HW1:=Zh (HW.out.trans ((Zaa HB.out hb1 HB.out.size).mono HW.out.size));have hsz1:W1.heap.size=wr.heap.size+1:=by rw[hW1];simp
   have k0:=HG1.out.cell 0;have k7:=H71.out.cell 0;have k8:=H81.out.cell 0;have ke:=HEK.out.cell 0;simp at k0 k7 k8 ke;have hx:=HAR.out W1 a g wr.heap.size w.heap.size (w.heap.size+1) (w.heap.size+1+1) HW1.out HPA.out hlt HG1.out (by rw[<- HE.out];exact HEK.out) H71.out H81.out H91.out;rw[<- HE.out]at hx;unfold at0 at hx;have HX:=Zh hx;have hgs:=HGS.out a HPA.out hlt;rw[<- HE.out]at hgs;have hyl:=HGL.out (min a t) (Nat.min_le_right _ _);have hel:=HGL.out E (by rw[HE.out];exact Nat.min_le_right _ _);have hya:y=G a:=by rw[HY.out,Yb7 (Nat.le_of_lt hlt)]
   rw[<- HY.out]at hyl;rw[<- hya]at hgs;rw[hgs,Yaq]at hel;have HGE:=Zh hgs;obtain⟨x,hxe⟩:=Ze (X a);rw[<- hxe]at HX HGE hel;have hps:=HPS.out a HPA.out hlt;have HPN:=Zh hps;clear hW1 hb1 u0 u9 us hx hgs hya hxe hps;go_wp2_with fail;refine HX.out.mono ?_;rintro e w2 ⟨v2,rfl,ho2,hb2⟩;obtain⟨A2,c2,rfl,hc2⟩:=Za0 ho2;have HX2:=Zh (BytesIn.own ho2 (by unfold maxLen;omega));have HB2:=Zh (Zaa HB1.out hb2 HB1.out.size);have HB02:=Zh (Zaa HB.out HB2.out HB.out.size);have HO2:=Zh (Zab HO1.out (w':=w2) λi e=>hb2.block i (HO1.out.lt i e).2);have HG2:=Zh (HG1.out.below hb2 HG1.out.lt);have H72:=Zh (H71.out.below hb2 H71.out.lt);have H82:=Zh (H81.out.below hb2 H81.out.lt);have H92:=Zh (H91.out.below hb2 H91.out.lt);have hsz2:=hb2.size;have hwz:=HB.out.size;have hgz:=HGK.out.lt;have hws:=HW.out.size;clear ho2 hb2 k0 k7 k8 ke c0 c7 c8 c9 cs;go_wp2_with (at_builtin;refine Zae _ rfl (.tmp 46) (.tmp 51) 24 rfl (w.heap.size+3) 5 i0 (.int .u8 0) 1 Tryz.underlying24 hi hz0 hz1 hz2 rfl _ y.length (y.map byteV) rfl HO2.out A2 x.length c2 (x.map byteV) rfl HX2.out.2.1 (Zbm x) (by unfold maxLen;omega) (by omega) (by omega) ?_;intro v3 w3 hown3 hgrow3 hloc3;obtain⟨A3,c3,hv3⟩:=Zac hown3;subst hv3;have HO3:=Zh hown3;have HB3:=Zh (HB02.out.grown hgrow3 (by omega) (λi e=>by have:=(HO2.out.lt i e).1;omega));have HG3:=Zh (HG2.out.grown hgrow3 (λe=>HNE.out g e.symm rfl));have H73:=Zh (H72.out.grown hgrow3 (λe=>by have:=(HO2.out.lt _ e.symm).1;omega));have H83:=Zh (H82.out.grown hgrow3 (λe=>by have:=(HO2.out.lt _ e.symm).1;omega));have H93:=Zh (H92.out.grown hgrow3 (λe=>by have:=(HO2.out.lt _ e.symm).1;omega));have g0:w3.cell? ⟨g,0,none⟩=some (.int .i64 (a:Int)):=HG3.out.cell 0;have u9:(w3.alloc (.cells #[.int .i64 (a:Int)] 3)).cell? ⟨w.heap.size+1+1,0,none⟩=some (.slice (some ad) k c):=(H93.out.alloc _).cell 0;have us:(w3.alloc (.cells #[.int .i64 (a:Int)] 3)).cell? ad=some (.int .i64 (s:Int)):=Zag ((HW.out.trans (HB3.out.mono HW.out.size)).alloc (Ybu HW.out.size HB3.out.size) _) HC.out;have hsz3:=HB3.out.size;clear hown3 hgrow3 hloc3);go_region;go_wp2;go_roundw;case rel=>
    have hg3:=HG3.out.lt;refine⟨a+s,w3.heap.size,y++x,rfl,HPN.out,by omega,by omega,by rw[<- HE.out];exact HGE.out.symm,?_,?_,by omega,?_,(HB3.out.alloc HB3.out.size _).drew,(H73.out.alloc _).drew,(H83.out.alloc _).drew,(H93.out.alloc _).drew⟩
    ·rw[Yaq,Ybe]
     exact Ze4 HO3.out _
    ·intro i e
     have:=(HO3.out.lt i e).2
     omega
    ·have h1:=Blk.new w3 3 #[.int .i64 ((a:Int)+(s:Int))]
     rw[show((a+s:Nat):Int)=(a:Int)+(s:Int) by omega];exact h1.drew
   case measure=>
    have h1:=Zg5 ((Blk.new w3 3 #[.int .i64 ((a:Int)+(s:Int))]).drew);have h2:=Zg5 HGK.out;unfold at0 at h1 h2;show t+16-Zfu _ _<t+16-Zfu _ _;rw[h1,h2];omega
  ·have hz:¬ ((a:Int)<(t:Int)):=by omega
   have hfin:y=G t:=by rw[HY.out,Nat.min_eq_right hge]
   have HF:=Zh hfin;clear hfin;go_wp2;go_ret;exact⟨_,rfl,by rw[<- HF.out];exact Zcq HO.out (by omega),HB.out⟩
theorem Qb4 (wB:World) (fo fa:Nat) (co ca:Array Value) (ego:∀ args w,(callFunc fo args).run Tryz.prog w=.ok (.enter fo args) w) (A:Option Addr) (c:Nat)
  (f t:Nat) (hft:f<=t) (ht:t<=4096) (U:Nat->Nm) (hGl:∀ k,k<=t-f->(cat U f k).length<=1099511627776)
  (hon:∀ (w:World) (i:Nat),Below wB.heap.size wB w->f<=i->i<t->Calls Tryz.prog fo (#[.int .i64 i]++co) w (RetB w (U i)))
  (w:World) (hw:Below wB.heap.size wB w):
  Calls Tryz.prog 86 #[.int .i64 f,.int .i64 t,.func (.func fo) #[] co,.func (.func fa) #[] ca,.slice A 0 c] w (RetB w (cat U f (t-f))):=by
 obtain⟨i0,hi,hz0,hz1,hz2⟩:=info_parts Za9;have HW:=Zh hw;have HON:=Zh hon;have HGL:=Zh hGl;clear hw hon hGl;go_enter Tryz.func86,Tryz.ntmps86;go_wp2;go_loopw [11,12] (λv i wr=>∃ (k:Nat) (y:Nm),f+k<=t/\i=.int .i64 (f+k:Nat)/\y=cat U f k/\wr.ownsRow (w.heap.size+3) 5 1 v y.length (y.map byteV)/\Below w.heap.size w wr/\w.heap.size+3<=wr.heap.size/\Blk wr w.heap.size 82 #[.func (.func fo) #[] co]) (λ_ i _=>t-(intOf i).toNat);case atStart=>
  have b1:=Blk.new w 82 #[.func (.func fo) #[] co];exact⟨0,[],by omega,rfl,rfl,⟨rfl,.inl ⟨rfl,rfl⟩⟩,((((Ybm _ w).alloc (Yar _) _).alloc (by simp) _).alloc (by simp;omega) _),by simp,(b1.alloc _).alloc _⟩
 case round=>
  obtain⟨k,y,hk,rfl,hy,hO,hB,hsz,h7⟩:=hrel;have HY:=Zh hy;have HO:=Zh hO;have HB:=Zh hB;have H7:=Zh h7;have c7:=h7.cell 0;simp at c7;clear hy hO hB h7;obtain⟨Av,cv,hv⟩:=Zac HO.out;subst hv;obtain⟨i,hi'⟩:=Ze (f+k);rw[<- hi']at hk ⊢;rcases Yab i t with hlt|hge
  ·have hlt':(i:Int)<(t:Int):=by omega
   have hw5:IntKind.i64.wrap ((i:Int)+1)=(i:Int)+1:=Ybo _ (by omega);have hx:=HON.out wr i (HW.out.trans (HB.out.mono HW.out.size)) (by omega) hlt;have hel:=HGL.out (k+1) (by omega);have hyl:=HGL.out k (by omega);have hce:cat U f (k+1)=y++U i:=by rw[cat,HY.out,hi']
   rw[hce,Yaq]at hel;rw[<- HY.out]at hyl;obtain⟨x,hxe⟩:=Ze (U i);rw[<- hxe]at hx hel hce;have HX:=Zh hx;have HCE:=Zh hce;have HI:=Zh hi';clear hx hce hxe hi';go_wp2_with fail;refine HX.out.mono ?_;rintro e w2 ⟨v2,rfl,ho2,hb2⟩;obtain⟨A2,c2,rfl,hc2⟩:=Za0 ho2;have HX2:=Zh (BytesIn.own ho2 (by unfold maxLen;omega));have HB2:=Zh (Zaa HB.out hb2 HB.out.size);have HO2:=Zh (Zab HO.out (w':=w2) λi e=>hb2.block i (HO.out.lt i e).2);have H72:=Zh (H7.out.below hb2 H7.out.lt);have hsz2:=hb2.size;clear ho2 hb2 c7;go_wp2_with (at_builtin;refine Zae _ rfl (.tmp 24) (.tmp 27) 24 rfl (w.heap.size+3) 5 i0 (.int .u8 0) 1 Tryz.underlying24 hi hz0 hz1 hz2 rfl _ y.length (y.map byteV) rfl HO2.out A2 x.length c2 (x.map byteV) rfl HX2.out.2.1 (Zbm x) (by unfold maxLen;omega) (by omega) (by omega) ?_;intro v3 w3 hown3 hgrow3 hloc3;have HO3:=Zh hown3;have HB3:=Zh (HB2.out.grown hgrow3 (by omega) (λi e=>by have:=(HO2.out.lt i e).1;omega));have H73:=Zh (H72.out.grown hgrow3 (λe=>by have:=(HO2.out.lt _ e.symm).1;omega));have hsz3:=hgrow3.size;clear hown3 hgrow3 hloc3);go_roundw;case rel=>
    exact⟨k+1,y++x,by have:=HI.out;omega,by have:=HI.out;go_num,HCE.out.symm,by rw[Yaq,Ybe];exact HO3.out,HB3.out,by omega,H73.out⟩
   case measure=>simp[intOf];omega
  ·have hz:¬ ((i:Int)<(t:Int)):=by omega
   have hfin:y=cat U f (t-f):=by rw[HY.out,show t-f=k by omega]
   have HF:=Zh hfin;clear hfin hi';go_wp2;go_ret;exact⟨_,rfl,by rw[<- HF.out];exact Zcq HO.out (by omega),HB.out⟩
theorem RetB.drew {w w':World} {x:Nm} {e:Ending} (h:RetB w.drew x e w'):RetB w x e w':=by
 obtain⟨v,h1,h2,h3⟩:=h;exact⟨v,h1,h2,⟨h3.os,h3.tape,h3.output,h3.size,h3.block⟩⟩
theorem Zz3 (w:World) (b:Nat) (A:Option Addr) (n c:Nat) (l:List Pst) (h:PostsSee w A n l) (hb:Blk w b 56 #[.slice A n c]) (hn:n<=4096) (hV:ValidP l) (i:Nat) (hi:i<n):
  Calls Tryz.prog 82 (#[.int .i64 i]++#[at0 b]) w (RetB w (Zbh l i)):=by
 have hlen:=h.len;have HP:=Zh h;have hmem:=Zay (show i<l.length by omega);obtain⟨pa,x,SA,da,rfl,hx,-,-,a1,hda,sa⟩:=h.at i hi;have hpx:=Zef hx;have hup:=hV.up i (by omega);have hgap:=λw' (hw':PostsSee w' (some pa) n l)=>Zsl w' (some pa) n c l hw' hn hV i (i+1) (by omega) (by omega) (by rw[Ybk];exact hup);rw[show((i+1:Nat):Int)=(i:Int)+1 by omega]at hgap;have hs1:=hV.spots _ hmem;have hs2:=hV.pos _ hmem;have hs3:=hV.at_ _ hmem;have hs4:=Zhv (hV.fit _ hmem);have hu:Zbh l i=putL ((pAt l i).1-Zaq l i-1).toNat++(putR (poss (pAt l i).2)++putR (atss (pAt l i).2)):=rfl;obtain⟨D,hD⟩:=Ze (((pAt l i).1-Zaq l i-1).toNat);simp only[Ybk]at hgap;rw[<- hD]at hu hgap;rw[hpx]at hs1 hs2 hs3 hs4 hu;have hdl:(putL D).length<=10:=by
  have q1:=hV.docs _ hmem;have q2:=hV.last (show i<=l.length by omega);exact Zao D (by omega)
 have hpl:=Zep (by rw[(Zcx x.2).1];exact hs1) hs2 hs4.1;have hal:=Zep (by rw[(Zcx x.2).2];exact hs1) hs3 hs4.2;have hpos:=Zeo D;obtain⟨x1,x2⟩:=x;simp only at a1 hda sa hs1 hs2 hs3 hu hpl hal;have b0:=hb.cell 0;simp at b0;have hw1:IntKind.i64.wrap ((i:Int)+1)=(i:Int)+1:=Ybo _ (by omega);have p0:(0:Int)<=(i:Int):=by omega
 have p1:(i:Int)<(n:Int):=by omega
 have HGAP:=Zh hgap;have HSA:=Zh sa;have HU:=Zh hu;have HR1:=Zh hs2;have HR2:=Zh hs3;clear h hx hpx hup hgap hmem hs4 hD hV hu sa hb hs2 hs3;unfold at0;rw[HU.out];obtain⟨Z,hZ⟩:=Ze (putR (poss x2)++putR (atss x2));rw[<- hZ];have HZ:=Zh hZ;have hzl:Z.length<=81940:=by rw[hZ,Yaq];omega
 clear hZ hpl hal;obtain⟨Y,hY⟩:=Ze (putL D);rw[<- hY]at HGAP hdl hpos ⊢;clear hY HU;simp only[List.append_toArray,Yac,Yad];go_enter Tryz.func82,Tryz.ntmps82;go_wp2_with fail;refine Yb8 (S:=λw'=>w'.cell? ⟨b,0,none⟩=some (.slice (some pa) n c)/\w'.cell? ⟨(pa.add (i*2)).block,(pa.add (i*2)).off+1,none⟩=some (.slice SA x2.length da)) (by kernel_rfl) ?_ (λhHeld=>?_)
 ·exact⟨b0,a1⟩
 refine tk 0 ?_ (hy:=by((intro w hSw;obtain⟨hS1,hS2⟩:=hSw;go_simp);first|done|with_reducible rfl));try simp only[Act.put,lz3,lz4,lz5]
 refine tk 1 ?_ (hy:=by((intro w hSw;obtain⟨hS1,hS2⟩:=hSw;go_simp);first|done|with_reducible rfl));try simp only[Act.put,lz3,lz4,lz5]
 refine tk 2 ?_ (hy:=by((intro w hSw;obtain⟨hS1,hS2⟩:=hSw;go_simp);first|done|with_reducible rfl));try simp only[Act.put,lz3,lz4,lz5]
 refine tk 3 ?_ (hy:=by((intro w hSw;obtain⟨hS1,hS2⟩:=hSw;go_simp);first|done|with_reducible rfl));try simp only[Act.put,lz3,lz4,lz5]
 refine tk 5 ?_ (hy:=by((intro w hSw;obtain⟨hS1,hS2⟩:=hSw;go_simp);first|done|with_reducible rfl));try simp only[Act.put,lz3,lz4,lz5]
 refine tk 6 ?_ (hy:=by((intro w hSw;obtain⟨hS1,hS2⟩:=hSw;go_simp);first|done|with_reducible rfl));try simp only[Act.put,lz3,lz4,lz5]
 refine tk 7 ?_ (hy:=by((intro w hSw;obtain⟨hS1,hS2⟩:=hSw;go_simp);first|done|with_reducible rfl));try simp only[Act.put,lz3,lz4,lz5]
 refine tk 8 ?_ (hy:=by((intro w hSw;obtain⟨hS1,hS2⟩:=hSw;go_simp);first|done|with_reducible rfl));try simp only[Act.put,lz3,lz4,lz5]
 refine tk 9 ?_ (hy:=by((intro w hSw;obtain⟨hS1,hS2⟩:=hSw;go_simp);first|done|with_reducible rfl));try simp only[Act.put,lz3,lz4,lz5]
 refine rd1 4 ?_;intro K hK;go_simp;refine(HGAP.out w.drew (HP.out.below ⟨rfl,rfl,rfl,Yar _,λ_ _=>rfl⟩)).mono ?_;rintro e w2 ⟨v2,rfl,ho2,hb2⟩;have hb2':Below w.heap.size w w2:=⟨hb2.os,hb2.tape,hb2.output,hb2.size,hb2.block⟩
 obtain⟨A2,c2,rfl,hc2⟩:=Za0 ho2;have HX2:=Zh (BytesIn.own ho2 (by unfold maxLen;omega));have HB2:=Zh hb2';have hS2:=And.intro (Zag hb2' b0) (Zag hb2' a1);clear ho2 hb2 hb2';go_wp2_with fail;refine hK.out _ _ hS2 (λ_=>?_);clear hK K;refine rd1 10 ?_;intro K hK;go_simp;refine(Zvp w2 SA x2.length da x2 (HSA.out.below HB2.out) hs1 HR1.out HR2.out).mono ?_;rw[<- HZ.out];rintro e w3 ⟨v3,rfl,ho3,hb3⟩;obtain⟨A3,c3,rfl,hc3⟩:=Za0 ho3;have HB3:=Zh (Zaa HB2.out hb3 HB2.out.size);have HX3:=Zh (HX2.out.below hb3);have HY3:=Zh (BytesIn.own ho3 (by unfold maxLen;omega));have hS3:=And.intro (Zag hb3 hS2.1) (Zag hb3 hS2.2);clear ho3 hb3;go_wp2_with fail;refine hK.out _ _ hS3 (λ_=>?_);clear hK K;refine rd1 11 ?_;intro K hK;go_simp;have hbw:Below w3.heap.size w3 (w3.alloc (.cells #[.slice A2 Y.length c2,.slice A3 Z.length c3] 24)):=(Ybm _ w3).alloc (Yar _) _;have hS4:=And.intro (Zag hbw hS3.1) (Zag hbw hS3.2);refine hK.out _ _ hS4 (λ_=>?_);clear hK K;try simp only[Act.put,lz3,lz4,lz5]
 refine rd1 12 ?_;intro K hK;go_simp;refine(Zdp _ _ 2 2 _ (Zzh w3 A2 A3 c2 c3 Y Z HX3.out HY3.out hc2 hc3) (by simp;omega) (by simp;omega) (by omega)).mono ?_;rintro e w4 ⟨v4,rfl,ho4,hb4⟩;have HB4:=Zh (Zaa (HB3.out.alloc HB3.out.size _) hb4 (by have:=HB3.out.size;simp;omega));have HO4:=Zh (Zcq (base':=w.heap.size) ho4 (by have:=HB3.out.size;simp;omega));have hS5:=And.intro (Zag hb4 hS4.1) (Zag hb4 hS4.2);clear ho4 hb4;go_wp2_with fail;refine hK.out _ _ hS5 (λ_=>?_);clear hK K;refine tk 13 ?_ (hy:=by((intro w hSw;obtain⟨hS1,hS2⟩:=hSw;go_simp);first|done|with_reducible rfl));try simp only[Act.put,lz3,lz4,lz5]
 refine Yb9 (by kernel_rfl) ?_ _;go_wp2;go_ret;exact⟨v4,rfl,by simpa using HO4.out,HB4.out⟩
theorem Zku (w:World) (b:Nat) (A:Option Addr) (n c:Nat) (l:List Pst) (h:PostsSee w A n l) (hb:Blk w b 56 #[.slice A n c]) (hn:n<=4096) (hV:ValidP l) (f t:Nat) (hft:f<t) (ht:t<=n) (x:Nm) (hx:x.length<=1099511600000) (cap:Array Value)
  (hin:Calls Tryz.prog 134 cap w (RetB w x)):
  Calls Tryz.prog 85 (#[.int .i64 f,.int .i64 t,.func (.func 134) #[] cap]++#[at0 b]) w (RetB w (Zdl l f t x++x)):=by
 have hlen:=h.len;have HP:=Zh h;have HBK:=Zh hb;have hgap:=λw' (hw':PostsSee w' A n l)=>Zsl w' A n c l hw' hn hV f t hft ht (hV.last_lt hft (by omega));have HIN:=Zh hin;have eg:∀ args w,(callFunc 134 args).run Tryz.prog w=.ok (.enter 134 args) w:=enters_of Tryz.func134 (by kernel_rfl) rfl;obtain⟨D,hD⟩:=Ze (((pAt l (t-1)).1-Zaq l f-1).toNat);have hdl:(putL D).length<=10:=Zao D (by rw[hD];exact Zg4 hV (by omega) (by omega));have hpos:=Zeo D;have hH:Zdl l f t x=putL D++putL x.length:=by unfold Zdl;rw[<- hD]
 rw[<- hD]at hgap;rw[hH];have HGAP:=Zh hgap;have hxl:(putL x.length).length<=10:=Zao _ (by omega);obtain⟨Y,hY⟩:=Ze (putL D);rw[<- hY]at HGAP hdl hpos ⊢;clear h hb hgap hV hin hD hH hY;unfold at0;simp only[List.append_toArray,Yac,Yad];go_enter Tryz.func85,Tryz.ntmps85;go_wp2_with fail;refine HIN.out.mono ?_;rintro e w2 ⟨v2,rfl,ho2,hb2⟩;obtain⟨A2,c2,rfl,hc2⟩:=Za0 ho2;have HX2:=Zh (BytesIn.own ho2 (by unfold maxLen;omega));have HB2:=Zh hb2;have HP2:=Zh (HP.out.below hb2);have b2:=(HBK.out.below hb2 HBK.out.lt).cell 0;simp at b2;clear ho2 hb2;go_wp2_with fail;refine(HGAP.out w2 HP2.out).mono ?_;rintro e w3 ⟨v3,rfl,ho3,hb3⟩;obtain⟨A3,c3,rfl,hc3⟩:=Za0 ho3;have HX3:=Zh (HX2.out.below hb3);have HY3:=Zh (BytesIn.own ho3 (by unfold maxLen;omega));have HB3:=Zh (Zaa HB2.out hb3 HB2.out.size);have hw5:IntKind.u64.wrap (x.length:Int)=(x.length:Int):=IntWalk.u64_in _ (by omega);clear ho3 hb3 b2;go_wp2_with fail;refine(Zff w3 x.length (by omega)).mono ?_;rintro e w4 ⟨v4,rfl,ho4,hb4⟩;obtain⟨A4,c4,rfl,hc4⟩:=Za0 ho4;have HX4:=Zh (HX3.out.below hb4);have HY4:=Zh (HY3.out.below hb4);have HZ4:=Zh (BytesIn.own ho4 (by unfold maxLen;omega));have HB4:=Zh (Zaa HB3.out hb4 HB3.out.size);clear ho4 hb4;go_wp2_with fail;refine(Zdp _ _ 3 3 _ (Zrw w4 A3 A4 A2 c3 c4 c2 Y (putL x.length) x HY4.out HZ4.out HX4.out hc3 hc4 hc2) (by simp;omega) (by simp;omega) (by omega)).mono ?_;rintro e w5 ⟨v5,rfl,ho5,hb5⟩;have HB5:=Zh (Zaa (HB4.out.alloc HB4.out.size _) hb5 (by have:=HB4.out.size;simp;omega));have HO5:=Zh (Zcq (base':=w.heap.size) ho5 (by have:=HB4.out.size;simp;omega));clear ho5 hb5;go_wp2;go_ret;exact⟨v5,rfl,by simpa using HO5.out,HB5.out⟩
theorem Qdb (wB:World) (b:Nat) (A:Option Addr) (n c:Nat) (l:List Pst) (h:PostsSee wB A n l) (hb:Blk wB b 56 #[.slice A n c]) (hn:n<=4096) (hV:ValidP l) (ad:Addr) (hcell:wB.cell? ad=some (.int .i64 (4:Nat)))
  (f t:Nat) (hf:f % 16=0) (hft:f<t) (ht:t=min n (f+16)) (w:World) (hw:Below wB.heap.size wB w):
  Calls Tryz.prog 86 #[.int .i64 f,.int .i64 t,.func (.func 82) #[] #[at0 b],.func (.func 85) #[] #[at0 b],.slice (some ad) 1 1] w (RetB w (cat (linB l) f (t-f))):=by
 have hlen:=h.len;have hlin:=λk (hk:f+k<=n)=>Zd2 hV (i:=f) (k:=k) (by omega);refine Zsk wB 82 85 #[at0 b] #[at0 b] (enters_of Tryz.func85 (by kernel_rfl) rfl) ad 1 1 4 (by omega) (by omega) (by omega) hcell f t (by omega) (by omega) (λa=>f<=a/\a % 4=0) (λa=>cat (linB l) f (a-f))
  (λa=>Zdl l a (min (a+4) t) (cat (Zbh l) a (min (a+4) t-a))++cat (Zbh l) a (min (a+4) t-a)) ⟨Yar _,by omega⟩ (λa ha _=>⟨by omega,by omega⟩) (by simp[cat]) (λa ha hat=>?_) (λa hat=>?_) ?_ w hw
 ·exact(Zms (l:=l) ha.1 ha.2 (by omega) (by omega)).symm
 ·show(cat (linB l) f (a-f)).length<=_
  have h1:=hlin (t-f) (by omega);rcases Yab f a with h2|h2
  ·have:=hlin (a-f) (by omega)
   have:90020*(a-f)<=90020*4096:=Yca _ (by omega);omega
  ·rw[show a-f=0 by omega]
   simp[cat]
 ·intro w1 a ga ge g7 g8 g9 hw1 ha hat ba be b7 b8 b9
  obtain⟨E,hE⟩:=Ze (min (a+4) t);rw[<- hE]at be ⊢;have hul:=Zd1 hV (i:=a) (k:=E-a) (by omega);refine Zku w1 b A n c l (h.below hw1) (hb.below hw1 hb.lt) hn hV a E (by omega) (by omega) _ (by omega) _ ?_;refine Zr7 ba be b7 b8 b9 (by omega) ?_;refine Calls.mono (Qb4 wB 82 85 #[at0 b] #[at0 b] (enters_of Tryz.func82 (by kernel_rfl) rfl) _ _ a E (by omega) (by omega) (Zbh l) (λk hk=>?_) (λw2 i hw2 hi1 hi2=>?_) w1.drew hw1.drew) λ_ _ h=>h.drew
  ·have:=Zd1 hV (i:=a) (k:=k) (by omega)
   have:90000*k<=90000*4096:=Yca _ (by omega);omega
  ·exact Zz3 w2 b A n c l (h.below hw2) (hb.below hw2 hb.lt) hn hV i (by omega)
theorem Qdc (wB:World) (b:Nat) (A:Option Addr) (n c:Nat) (l:List Pst) (h:PostsSee wB A n l) (hb:Blk wB b 56 #[.slice A n c]) (hn:n<=4096) (hV:ValidP l) (gs:Nat) (hs:Blk wB gs 3 #[.int .i64 16,.int .i64 4]) (w:World) (hw:Below wB.heap.size wB w):
  Calls Tryz.prog 86 #[.int .i64 (0:Nat),.int .i64 n,.func (.func 82) #[] #[at0 b],.func (.func 85) #[] #[at0 b],.slice (some ⟨gs,0,none⟩) 2 2] w (RetB w (cat (lin l) 0 n)):=by
 have hlen:=h.len;have hlin:=λk (hk:k<=n)=>Zid hV (i:=0) (k:=k) (by omega);refine Zsk wB 82 85 #[at0 b] #[at0 b] (enters_of Tryz.func85 (by kernel_rfl) rfl) ⟨gs,0,none⟩ 2 2 16 (by omega) (by omega) (by omega) (hs.cell 0) 0 n (by omega) (by omega) (λa=>a % 16=0) (λa=>cat (lin l) 0 a)
  (λa=>Zdl l a (min (a+16) n) (cat (linB l) a (min (a+16) n-a))++cat (linB l) a (min (a+16) n-a)) (by omega) (λa ha _=>by omega) (by simp[cat]) (λa ha hat=>?_) (λa hat=>?_) ?_ w hw
 ·exact(Zml (l:=l) ha (by omega) (by omega)).symm
 ·have:=hlin a hat
  have:90040*a<=90040*4096:=Yca _ (by omega);show(cat (lin l) 0 a).length<=_;omega
 ·intro w1 a ga ge g7 g8 g9 hw1 ha hat ba be b7 b8 b9
  obtain⟨E,hE⟩:=Ze (min (a+16) n);rw[<- hE]at be ⊢;have hul:=Zd2 hV (i:=a) (k:=E-a) (by omega);refine Zku w1 b A n c l (h.below hw1) (hb.below hw1 hb.lt) hn hV a E (by omega) (by omega) _ (by omega) _ ?_;refine Zr7 ba be b7 b8 b9 (by omega) ?_;rw[Zkb _ _ (by omega),show(⟨gs,0,none⟩:Addr).add 1=⟨gs,1,none⟩ by simp[Addr.add]];exact(Qdb wB b A n c l h hb hn hV _ (hs.cell 1) a E ha (by omega) (by omega) w1.drew hw1.drew).mono λ_ _ h=>h.drew
theorem Qbr (w:World) (A:Option Addr) (n c:Nat) (l:List Pst) (h:PostsSee w A n l) (hn:n<=1000000):
  Calls Tryz.prog 36 #[.slice A n c] w (Zm1 w l):=by
 have hlen:=h.len;have hfit:=Zv8 h;have HP:=Zh h;have b1:=Blk.new w 56 #[.slice A n c];have hb1:Below w.heap.size w (w.alloc (.cells #[.slice A n c] 56)):=(Ybm _ w).alloc (Yar _) _;obtain⟨W1,hW1⟩:=Ze (w.alloc (.cells #[.slice A n c] 56));rw[<- hW1]at b1 hb1;have HW1:=Zh hW1;have HP1:=Zh (h.below hb1);have HB1:=Zh hb1;have HBK1:=Zh b1;have t0:=b1.cell 0;simp at t0;have HTM:=Zh (Zo1 W1 A n c l HP1.out hn);obtain⟨C,hC⟩:=Ze (Zb3 l);have HC:=Zh hC;have hck:C=2\/(n<=4096/\(∀ x∈l,x.2.length<=4096)/\((okUp l n=true/\C=0)\/(okUp l n=false/\C=1))):=by
  rw[hC];unfold Zb3;by_cases h1:4096<l.length
  ·exact .inl (Yag h1)
  ·rw[Yaf h1]
   cases h2:Zcv l l.length with
   | true=>exact .inl (Yag rfl)
   | false=>
    refine .inr ⟨by omega,λx hx=>?_,?_⟩
    ·obtain⟨i,hi,rfl⟩:=Zxd hx
     exact manyUp_iff.1 h2 i hi
    ·rw[hlen]
     cases h3:okUp l n with
     | true=>exact .inl ⟨rfl,by simp⟩
     | false=>exact .inr ⟨rfl,by simp⟩
 rw[<- hC]at HTM;unfold Zm1;rw[<- hC];clear h hb1 b1 hW1;go_enter Tryz.func36,Tryz.ntmps36;go_wp2_with fail;rw[<- HW1.out];refine HTM.out.mono ?_;rintro e w2 ⟨rfl,hb2⟩;have HB2:=Zh (Zaa HB1.out hb2 HB1.out.size);have HP2:=Zh (HP1.out.below hb2);have HBK2:=Zh (HBK1.out.below hb2 HBK1.out.lt);have t2:=HBK2.out.cell 0;simp at t2;clear hb2 t0;rcases hck with hc2|⟨hn4,hsp,hck⟩
 ·have hE:putE l=[]:=by unfold putE;rw[Yaf (by rw[<- HC.out,hc2];decide)]
  subst hc2;rw[Yb0 rfl];have HE:=Zh hE;clear hC hE hfit;go_wp2;go_ret2;exact⟨_,rfl,by rw[HE.out];exact⟨rfl,.inl ⟨rfl,rfl⟩⟩,HB2.out⟩
 ·have hC2:C≠2:=by rcases hck with⟨_,h1⟩|⟨_,h1⟩<;>rw[h1]<;>decide
  rw[Ybt hC2];have HVA:=Zh (Zvy w2 A n c l HP2.out hn4 hsp);clear hC;go_wp2_with fail;refine HVA.out.mono ?_;rintro e w3 ⟨rfl,hb3⟩;have HB3:=Zh (Zaa HB2.out hb3 HB2.out.size);have HP3:=Zh (HP2.out.below hb3);have HBK3:=Zh (HBK2.out.below hb3 HBK2.out.lt);have t3:=HBK3.out.cell 0;simp at t3;clear hb3 t2;rcases hck with⟨hok,hc⟩|⟨hok,hc⟩
  ·subst hc
   have hV:=(Zex hfit).1 HC.out.symm;have hE:putE l=putL n++cat (lin l) 0 n:=by unfold putE;rw[Yag HC.out.symm,putP,hlen]
   rw[hok];have HE:=Zh hE;have HV:=Zh hV;have hkl:(cat (lin l) 0 n).length<=368803840:=by
    have h1:=Zid hV (i:=0) (k:=n) (by omega);have:90040*n<=90040*4096:=Yca _ hn4;omega
   have bs:=Blk.new w3 3 #[.int .i64 16,.int .i64 4];have hbs:Below w3.heap.size w3 (w3.alloc (.cells #[.int .i64 16,.int .i64 4] 3)):=(Ybm _ w3).alloc (Yar _) _;have hcall:=Qdc (w3.alloc (.cells #[.int .i64 16,.int .i64 4] 3)) w.heap.size A n c l (HP3.out.below hbs) (HBK3.out.below hbs HBK3.out.lt) hn4 hV w3.heap.size bs _ (Ybm _ _);unfold at0 at hcall;have HCALL:=Zh hcall;have HB3s:=Zh (Zaa HB3.out hbs HB3.out.size);have HBKs:=Zh (HBK3.out.below hbs HBK3.out.lt);have hnl:=Zeo n;have hnl2:=Zao n (by omega);have hw5:IntKind.u64.wrap (n:Int)=(n:Int):=IntWalk.u64_in _ (by omega);obtain⟨Z,hZ⟩:=Ze (cat (lin l) 0 n);rw[<- hZ]at hkl HE HCALL;clear hok hE hV hfit hsp bs hbs hcall hZ HTM;go_wp2_with fail;refine HCALL.out.mono ?_;rintro e w4 ⟨v4,rfl,ho4,hb4⟩;obtain⟨A4,c4,rfl,hc4⟩:=Za0 ho4;have HX4:=Zh (BytesIn.own ho4 (by unfold maxLen;omega));have HB4:=Zh (Zaa HB3s.out hb4 HB3s.out.size);have t4:=(HBKs.out.below hb4 HBKs.out.lt).cell 0;simp at t4;clear ho4 hb4 t3;go_wp2_with fail;refine(Zff w4 n (by omega)).mono ?_;rintro e w5 ⟨v5,rfl,ho5,hb5⟩;obtain⟨A5,c5,rfl,hc5⟩:=Za0 ho5;have HX5:=Zh (HX4.out.below hb5);have HY5:=Zh (BytesIn.own ho5 (by unfold maxLen;omega));have HB5:=Zh (Zaa HB4.out hb5 HB4.out.size);clear ho5 hb5 t4;go_wp2_with fail;refine(Zdp _ _ 2 2 _ (Zzh w5 A5 A4 c5 c4 (putL n) Z HY5.out HX5.out hc5 hc4) (by simp;omega) (by simp;omega) (by omega)).mono ?_;rintro e w6 ⟨v6,rfl,ho6,hb6⟩;have HB6:=Zh (Zaa (HB5.out.alloc HB5.out.size _) hb6 (by have:=HB5.out.size;simp;omega));have HO6:=Zh (Zcq (base':=w.heap.size) ho6 (by have:=HB5.out.size;simp;omega));clear ho6 hb6;go_wp2;go_ret2;exact⟨v6,rfl,by rw[HE.out];simpa using HO6.out,HB6.out⟩
  ·subst hc
   have hE:putE l=[]:=by unfold putE;rw[Yaf (by rw[<- HC.out];decide)]
   rw[hok];have HE:=Zh hE;clear hok hE hfit hsp;go_wp2;go_ret2;exact⟨_,rfl,by rw[HE.out];exact⟨rfl,.inl ⟨rfl,rfl⟩⟩,HB3.out⟩
end
end Go.Proofs.YthcjikpabpgpfaaGreat
