import Derived.Test.YthcjikpabpgpfaaGreatZp14
import Derived.Deep.LoopGhost
import Derived.Deep.DeepCutAuto
import Derived.Deep.QuietTactic
import Derived.BigQuiet
import Derived.Lib.SmallJoins
set_option linter.unusedSimpArgs false
set_option maxHeartbeats 16000000
set_option maxRecDepth 100000
namespace Go.Proofs.YthcjikpabpgpfaaGreat
open Go.RowKit Go.Maps Go.WideMaps
theorem Zuz (w:World):(sizeOf (Tryz.prog.elem 56)).run Tryz.prog w=.ok 2 w:=by
 obtain⟨i0,hi,hz0,hz1,hz2⟩:=info_parts Zeq;rw[show Tryz.prog.elem 56=62 by kernel_rfl,run_sizeOf w hi];unfold Program.cellsOf;rw[hi];simp[hz1]
theorem Zvw (w:World) (A:Option Addr) (n c p:Nat) (hp:p<=n):(Instr.slice 56 (.slice A n c) (some (.int .i64 p)) none none).run Tryz.prog w=.ok (.slice (Zgx A p c) (n-p) (c-p)) w:=by
 rw[run_slice_l (P:=Tryz.prog) (w:=w) 56 A n c Tryz.underlying56 .i64 p (by omega) (by omega),Zuz];simp[Result.andThen,sliced,Zgx]
theorem Zy7 (w:World) (g:Nat) (d x:Int) (hg:Blk w g 2 #[.int .i64 d]) (B:Option Addr) (k c:Nat):Calls Tryz.prog 191 #[.agg #[.int .i64 x,.slice B k c],.pointer (some ⟨g,0,none⟩)] w λe w'=>e=.returned (.bool (decide (d<=x)))/\Below w.heap.size w w':=by
 have HB:=Zh ((Ybm w.heap.size w).alloc (Yar _) (.cells #[.int .i64 x,.slice B k c] 62));have c0:=(hg.alloc (.cells #[.int .i64 x,.slice B k c] 62)).cell 0;simp only[lz0,lz1]at c0;clear hg;go_enter Tryz.func191,Tryz.ntmps191;go_wp2;go_ret;exact⟨rfl,HB.out⟩
def IdxD (l:List Pst) (d:Int) (n:Nat) (r:Int):Prop:=(r=-1/\∀ i,i<n->(pAt l i).1<d)\/∃ k:Nat,r=k/\k<n/\(∀ i,i<k->(pAt l i).1<d)/\d<=(pAt l k).1
theorem Qbf (w:World) (A:Option Addr) (n c:Nat) (l:List Pst) (h:PostsSee w A n l) (hn:n<=4096) (g:Nat) (d:Int) (hg:Blk w g 2 #[.int .i64 d]):
  Calls Tryz.prog 172 #[.slice A n c,.func (.func 191) #[] #[.pointer (some ⟨g,0,none⟩)]] w λe w'=>∃ r:Int,e=.returned (.int .i64 r)/\IdxD l d n r/\Below w.heap.size w w':=by
 have HP:=Zh h;have HG:=Zh hg;clear h hg;go_enter Tryz.func172,Tryz.ntmps172;go_wp2;go_loopw [8] (λi wr=>∃ k:Nat,k<=n/\i=.int .i64 k/\(∀ i,i<k->(pAt l i).1<d)/\Below w.heap.size w wr) (λi _=>n-(Go.RowKit.intOf i).toNat);case atStart=>exact⟨0,by omega,rfl,(λi hi=>by omega),Ybm _ _⟩
 case round=>
  obtain⟨k,hk,rfl,hmu,hB⟩:=hrel;have HMU:=Zh hmu;have HB:=Zh hB;have HGR:=Zh (HG.out.below hB HG.out.lt);clear hmu hB;rcases Yab k n with hlt|hge
  ·have hlt':(k:Int)<(n:Int):=by omega
   have p0:(0:Int)<=(k:Int):=by omega
   have hw5:IntKind.i64.wrap ((k:Int)+1)=(k:Int)+1:=Ybo _ (by omega);obtain⟨pa,x,SA,da,rfl,hx,-,a0,a1,-,-⟩:=(HP.out.below HB.out).at k hlt;have HPX:=Zh (Zef hx);obtain⟨x1,x2⟩:=x;simp only at a0 a1;obtain⟨m,hm⟩:=Ze x2.length;rw[<- hm]at a1;clear hx hm;go_wp2_with fail;refine(Zy7 wr g d x1 HGR.out SA m da).mono ?_;rintro e w2 ⟨rfl,hb2⟩;have HB2:=Zh (Zaa HB.out hb2 HB.out.size);clear hb2;by_cases hsp:d<=x1
   ·have d1:decide (d<=x1)=true:=Yb0 hsp
    have hfin:IdxD l d n (k:Int):=.inr ⟨k,rfl,hlt,HMU.out,by rw[HPX.out];exact hsp⟩;have HF:=Zh hfin;rw[d1];clear hfin;go_wp2;go_ret;exact⟨_,rfl,HF.out,HB2.out⟩
   ·have d1:decide (d<=x1)=false:=Ybt hsp
    have hnx:∀ i,i<k+1->(pAt l i).1<d:=λi hi=>by
     rcases Yab i k with h1|h1
     ·exact HMU.out i h1
     ·obtain rfl:i=k:=by omega
      rw[HPX.out];simp only;omega
    have HNX:=Zh hnx;rw[d1];clear hnx d1;go_wp2;go_roundw;case rel=>exact⟨k+1,by omega,by go_num,HNX.out,HB2.out⟩
    case measure=>simp[Go.RowKit.intOf];omega
  ·obtain rfl:k=n:=by omega
   have hlz:¬ ((k:Int)<(k:Int)):=by omega
   go_wp2;go_ret;exact⟨_,rfl,.inl ⟨rfl,HMU.out⟩,HB.out⟩
def Qe2 (po:List Pst) (d:Int) (t:Bool) (po':List Pst):Prop:=(t=false/\(∀ i,i<po.length->(pAt po i).1<d)/\po'=[])\/(t=true/\∃ k,k<po.length/\(∀ i,i<k->(pAt po i).1<d)/\d<=(pAt po k).1/\po'=po.drop k)
theorem Zmv {w:World} {F:Nat->Prop} {b:Nat} {po:List Pst} {lf:Nm} {la P N r:Int} (h:CuRaw w F b po lf la P N r) (d:Int) (hpl:po.length<=4096):
  Calls Tryz.prog 161 #[at0 b,.int .i64 d] w λe w'=>∃ t po',e=.returned (.bool t)/\Qe2 po d t po'/\CuRaw w' F b po' lf la P N r/\Kept (λi=>i=b) w w':=by
 obtain⟨W1,hW1⟩:=Ze (w.alloc (.cells #[.int .i64 d] 2));have hb1:Below w.heap.size w W1:=by rw[hW1];exact(Ybm _ w).alloc (Yar _) _
 have hT1:Blk W1 w.heap.size 2 #[.int .i64 d]:=by rw[hW1];exact Blk.new _ _ _
 obtain⟨A,n,c,L,m,k,q1,q2⟩:=h.below hb1;have hpn:=q2.po.1.len;have HIDX:=Zh (Qbf W1 A n c po q2.po.1 (by omega) w.heap.size d hT1);have HB1:=Zh hb1;have HQ1:=Zh q1;have HQ2:=Zh q2;have c0:=q1.cell 0;simp only[lz0,lz1]at c0;rw[hW1]at c0;have HW1:=Zh hW1;have HPN:=Zh hpn;have hcap:=q2.cap;clear h hb1 hT1 q1 q2 hW1 hpn hpl;unfold at0;go_enter Tryz.func161,Tryz.ntmps161;go_wp2_with fail;rw[<- HW1.out];refine HIDX.out.mono ?_;rintro e w2 ⟨r',rfl,hi,hb2⟩;have HB2:=Zh hb2;have HQ12:=Zh (HQ1.out.below hb2 HQ1.out.lt);have HQ22:=Zh (HQ2.out.kept (Kept.below hb2));have y0:=HQ12.out.cell 0;have z0:=HQ12.out.frozen 0;simp only[lz0,lz1]at y0;have HK2:=Zh (Zcs (Kept.below (F:=λi=>i=b) HB1.out) (Kept.below hb2));clear hb2 c0;rcases hi with⟨rfl,hall⟩|⟨K,rfl,hK,hless,hhere⟩
 ·have HA:=Zh hall
  clear hall;go_wp2;go_ret;obtain⟨W3,hW3⟩:=Ze (w2.setCell ⟨b,0,none⟩ (.slice none 0 0));have hk3:Kept (λi=>i=b) w2 W3:=by rw[hW3];exact Ze2 (Kept.refl _ w2) 0 _
  have hb3:=HQ12.out.set_ 0 (.slice none 0 0);rw[<- hW3]at hb3 ⊢;have h3:=HQ22.out.kept hk3;exact⟨false,[],rfl,.inl ⟨rfl,by rw[HPN.out];exact HA.out,rfl⟩,⟨none,0,0,L,m,k,by simpa using hb3,⟨PostsF.nil _ _,Yar _,h3.lf,h3.room,h3.own,h3.low⟩⟩,Zcs HK2.out hk3⟩
 ·have d1:decide ((K:Int)<0)=false:=Ybt (by omega)
  have HA:=Zh hless;have HH:=Zh hhere;have hsl:=λw=>Zvw w A n c K (by omega);clear hless hhere;go_wp2;go_ret;obtain⟨W3,hW3⟩:=Ze (w2.setCell ⟨b,0,none⟩ (.slice (Zgx A K c) (n-K) (c-K)));have hk3:Kept (λi=>i=b) w2 W3:=by rw[hW3];exact Ze2 (Kept.refl _ w2) 0 _
  have hb3:=HQ12.out.set_ 0 (.slice (Zgx A K c) (n-K) (c-K));rw[<- hW3]at hb3 ⊢;have h3:=HQ22.out.kept hk3;exact⟨true,po.drop K,rfl,.inr ⟨rfl,K,by rw[HPN.out];exact hK,HA.out,HH.out,rfl⟩,⟨_,_,_,L,m,k,by simpa using hb3,⟨h3.po.cut h3.cap (by omega),by omega,h3.lf,h3.room,h3.own,h3.low⟩⟩,Zcs HK2.out hk3⟩
structure EnIn (w wr:World) (F:Nat->Prop) (b g:Nat) (po:List Pst) (lf:Nm) (la P N r:Int) (x y:Int) (A:Option Addr) (n:Nat) (L:List Int):Prop where
 cu:CuRaw wr F b po lf la P N r
 part:Blk wr g 270 #[.int .i64 x,.int .i64 y]
 ints:IntsIn wr A n L
 far:∀ ad,A=some ad->g<ad.block
 new:w.heap.size<=g
 near:∀ i,F i->i<g
 kept:Kept (λi=>i=b) w wr
theorem Zs3 {w w':World} {A:Option Addr} {n:Nat} {L:List Int} (h:IntsIn w A n L) (hk:∀ ad,A=some ad->w'.heap[ad.block]?=w.heap[ad.block]?) (hs:w.heap.size<=w'.heap.size):IntsIn w' A n L:=
 ⟨h.1,h.2.1.keep λad e _=>hk ad e,h.2.2.1,λad e h0=>Ya7 (h.2.2.2 ad e h0) hs⟩
theorem EnIn.step {w wr w':World} {F:Nat->Prop} {b g:Nat} {po:List Pst} {lf lf':Nm} {la P N r la' P':Int} {x y:Int} {A:Option Addr} {n:Nat} {L:List Int} (hn:0<n) (h:EnIn w wr F b g po lf la P N r x y A n L) (hc:CuRaw w' F b po lf' la' P' N r) (hk:Kept (λi=>i=b) wr w'):EnIn w w' F b g po lf' la' P' N r x y A n L where
 cu:=hc
 part:=h.part.kept hk (by have:=h.near b h.cu.low.1;omega)
 ints:=Zs3 h.ints (λad e=>hk.block _ (h.ints.2.2.2 ad e hn) (by have:=h.near b h.cu.low.1;have:=h.far ad e;omega)) hk.size
 far:=h.far
 new:=h.new
 near:=h.near
 kept:=Zcs h.kept hk
theorem EnIn.put {w wr:World} {F:Nat->Prop} {b g:Nat} {po:List Pst} {lf:Nm} {la P N r:Int} {x y:Int} {A:Option Addr} {n:Nat} {L:List Int} (h:EnIn w wr F b g po lf la P N r x y A n L) (x' y':Int):EnIn w ((wr.setCell ⟨g,0,none⟩ (.int .i64 x')).setCell ⟨g,1,none⟩ (.int .i64 y')) F b g po lf la P N r x' y' A n L where
 cu:=h.cu.all (λi hi=>by have:=h.near i hi;rw[Zad _ _ _ (by simp only;omega),Zad _ _ _ (by simp only;omega)]) (by rw[Zai,Zai];exact Yar _)
 part:=by simpa using(h.part.set_ 0 (.int .i64 x')).set_ 1 (.int .i64 y')
 ints:=Zs3 h.ints (λad e=>by have:=h.far ad e;rw[Zad _ _ _ (by simp only;omega),Zad _ _ _ (by simp only;omega)]) (by rw[Zai,Zai];exact Yar _)
 far:=h.far
 new:=h.new
 near:=h.near
 kept:=(h.kept.setCell (p:=⟨g,0,none⟩) (.inr h.new) _).setCell (p:=⟨g,1,none⟩) (.inr h.new) _
def Zhl (l:List Pst) (P:Nat):Nat->Nm
 | 0=>Zdv l P
 | 1=>Zo5 l P
 | _=>inB l P++Zdv l (P+4)
def mJ (j:Nat):Nat:=if j=0 then 16 else 4
def Zqz (l:List Pst) (P j:Nat):Nm:=if j=0 then inG l P else inB l P
theorem Zu2 {l:List Pst} {P j:Nat} (h:P<l.length) (hj:j<2) (h0:j=0->P % 16=0):Zhl l P j=putL (gapP l P (mJ j))++(putL (Zqz l P j).length++Zhl l P (j+1)):=by
 match j with
 | 0=>exact Zu3 h (h0 rfl)
 | 1=>exact Zt4 h
theorem Zu4 {l:List Pst} {P j:Nat} (h:P<l.length) (hj:j<2) (h0:j=0->P % 16=0):Zhl l P (j+1)=Zqz l P j++Zdv l (P+mJ j):=by
 match j with
 | 0=>exact Zu7 h (h0 rfl)
 | 1=>rfl
theorem Zy5 {l:List Pst} (hV:ValidP l) {P j:Nat} (h:P<l.length):(Zqz l P j).length<2 ^ 40:=by
 have h1:=Qc8 hV h;have h2:=Qdr hV h;unfold Zqz;split<;>omega
theorem Qdl (j:Nat):0<mJ j/\mJ j<=16/\mJ j % 4=0:=by
 unfold mJ;split<;>omega
theorem BytesF.mono {w:World} {F G:Nat->Prop} {A:Option Addr} {n:Nat} {l:Nm} (h:BytesF w F A n l) (hk:∀ i,F i->G i):BytesF w G A n l:=⟨h.1,λad e h0=>hk _ (h.2 ad e h0)⟩
def Qbz (w:World) (F:Nat->Prop) (b:Nat) (l:List Pst) (po:List Pst) (P0 r:Nat) (d:Int) (e:Ending) (w':World):Prop:=
 (e=.returned (.bool true)/\∃ P F',P0<=P/\P % 4=0/\P<l.length/\(∀ i,P0<=i->i<P->(pAt l i).1<d)/\d<=Zaq l (endP l P 4)/\CuRaw w' F' b (sl l P (endP l P 4)) (Zdv l (P+4)) (Zaq l (endP l P 4)) (P+4:Nat) l.length (r+1:Nat)/\Kept F w w'/\∀ i,F' i->F i\/w.heap.size<=i)\/
 (e=.returned (.bool false)/\∃ P,l.length<=P/\P % 4=0/\P<=l.length+16/\(∀ i,P0<=i->i<l.length->(pAt l i).1<d)/\CuRaw w' F b po (Zdv l P) (Zaq l (min P l.length)) P l.length r/\Kept F w w')
theorem Zvn {w:World} {F:Nat->Prop} {b:Nat} {l po:List Pst} (hV:ValidP l) {P0 r:Nat} (h:CuRaw w F b po (Zdv l P0) (Zaq l (min P0 l.length)) P0 l.length r) (h4:P0 % 4=0) (h16:P0<=l.length+16) (hr:r<=10000) (d:Int):
  Calls Tryz.prog 162 #[at0 b,.int .i64 d] w (Qbz w F b l po P0 r d):=by
 obtain⟨N,hN⟩:=Ze l.length;have hN4:=hV.few;rw[<- hN]at hN4 h16;have HV:=Zh hV;have HH:=Zh h;have HNN:=Zh hN;clear h hV;rw[<- hN]at HH;clear hN;unfold at0;go_enter Tryz.func162,Tryz.ntmps162;go_wp2;go_step3;go_wp2;go_step3;go_wp2;go_loopg [] (5000-P0) (λg wr=>∃ P:Nat,g=5000-P/\P0<=P/\P % 4=0/\P<=N+16/\(∀ i,P0<=i->i<min P N->(pAt l i).1<d)/\CuRaw wr F b po (Zdv l P) (Zaq l (min P N)) P N r/\Kept (λi=>i=b) w wr);case atStart=>exact⟨P0,rfl,Yar _,h4,h16,(λi h1 h2=>by omega),HH.out,Kept.refl _ _⟩
 case round=>
  obtain⟨P,hg,hP0,hP4,hP16,hless,hC,hK⟩:=hrel;have HL:=Zh hless;have HC:=Zh hC;have HK:=Zh hK;have hbl:=hC.lt;have hkz:=hK.size;obtain⟨A0,n0,c0,L0,m0,k0,q1,q2⟩:=hC;have c3:∀ q,(wr.drewN q).cell? ⟨b,3,none⟩=some (.int .i64 (P:Int)):=λq=>by simpa using(q1.drewN q).cell 3
  have c4:∀ q,(wr.drewN q).cell? ⟨b,4,none⟩=some (.int .i64 (N:Int)):=λq=>by simpa using(q1.drewN q).cell 4
  clear hless hK q1 q2;by_cases hlt:P<N
  ·have d1:decide ((P:Int)<(N:Int))=true:=Yb0 (by omega)
   have p1:(P:Int)<(N:Int):=by omega
   go_wp2;go_quiet (fail);clear c3 c4;obtain⟨wo,hwo⟩:=Ze ((wr.drewN nq).alloc (.cells #[.int .i64 0,.int .i64 0] 270));have hbo:Below wr.heap.size wr wo:=by rw[hwo];exact(Zaf (Ybm _ wr) nq).alloc (Yar _) _
   have hT:Blk wo wr.heap.size 270 #[.int .i64 0,.int .i64 0]:=by rw[hwo];exact Blk.new (wr.drewN nq) _ _
   have hCo:=HC.out.below hbo;have hso:wr.heap.size<wo.heap.size:=hT.lt;have hbeg:=Zqr hCo;unfold at0 at hbeg;have HWO:=Zh hwo;have HBO:=Zh hbo;have HT:=Zh hT;have HBEG:=Zh hbeg;clear hwo hbo hT hCo hbeg;go_wp2_with fail;rw[<- HWO.out];refine HBEG.out.mono ?_;rintro e w2 ⟨LA,n,LC,L,rfl,hI,hb2,hLL,hLf⟩;obtain⟨g,hgg⟩:=Ze wr.heap.size;rw[<- hgg]at HT hso hbl;have hmin:min P N=P:=by omega
   have hN0:n=L.length:=(IntsIn.len hI).symm;obtain⟨e0,he0⟩:=Ze (2-n);have hn2:(P % 16=0->n=2)/\(P % 16≠0->n=1):=by
    rw[hN0,hLL];constructor
    ·intro h;rw[Yag h];rfl
    ·intro h;rw[Yaf h];rfl
   have hn3:0<n/\n<=2:=by
    by_cases h:P % 16=0
    ·have:=hn2.1 h;omega
    ·have:=hn2.2 h;omega
   have hLat:∀ j,e0<=j->j<2->L[j-e0]?=some (mJ j:Int)/\(j=0->P % 16=0):=by
    intro j h1 h2;by_cases h:P % 16=0
    ·have h3:=hn2.1 h
     rw[hLL,Yag h];refine⟨?_,λ_=>h⟩
     match j with
     | 0=>simp[mJ]
     | 1=>rw[he0,h3];rfl
    ·have h3:=hn2.2 h
     rw[hLL,Yaf h];have:j=1:=by omega
     subst this;exact⟨by rw[he0,h3];rfl,λe=>by omega⟩
   have hEn:EnIn w w2 F b g po (Zhl l P e0) (Zaq l P) P N r 0 0 LA n L:={
    cu:=by
     have h1:=(HC.out.below HBO.out).below hb2;rw[hmin]at h1;have h2:Zhl l P e0=Zdv l P:=by
      by_cases h:P % 16=0
      ·have h3:=hn2.1 h
       rw[he0,h3];rfl
      ·have h3:=hn2.2 h
       rw[he0,h3,Zyf (by rw[<- HNN.out];exact hlt) hP4 h];rfl
     rw[h2];exact h1
    part:=HT.out.below hb2 hso
    ints:=hI
    far:=λad e=>by have:=hLf ad e;omega
    new:=by rw[hgg];exact hkz
    near:=λi hi=>by rw[hgg];exact HC.out.low.2 i hi
    kept:=Zcs (Zcs HK.out (Kept.below HBO.out)) (Kept.below hb2) }
   have HEN:=Zh hEn;have HLAT:=Zh hLat;have hV:=HV.out;have hPl:P<l.length:=by rw[<- HNN.out];exact hlt
   have hlaP:=hV.last (i:=P) (by omega);obtain⟨la,hla⟩:=Ze (Zaq l P);rw[<- hla]at hlaP HEN;have HLA:=Zh hla;have HV:=Zh hV;have HGK:=Zh hg;have HGG:=Zh hgg;have HPL:=Zh hPl;clear hI hb2 hLL hLf hEn hLat hV hla hN0 hg hPl hmin hgg hso hbl hkz hn2;obtain⟨wx,hwx⟩:=Ze wr;subst hwx;go_wp2;rw[<- HGG.out];go_loopg [20] (2-e0) (λk i wi=>∃ (j:Nat) (x y:Int),e0<=j/\j<=2/\k=2-j/\i=.int .i64 ((j-e0:Nat):Int)/\(j=2->x=Zaq l (endP l P 4)/\y=((inB l P).length:Int)/\d<=x)/\EnIn w wi F b g po (Zhl l P j) la P N r x y LA n L);case atStart=>exact⟨e0,0,0,Yar _,by omega,rfl,by rw[Ybq];rfl,(λe=>by omega),HEN.out⟩
   case round=>
    obtain⟨j,x,y,hj1,hj2,hgk,rfl,hxy,hE⟩:=hrel;obtain⟨I,hI⟩:=Ze (j-e0);rw[<- hI];have HE:=Zh hE;have HXY:=Zh hxy;have hbg:=hE.near b hE.cu.low.1;obtain⟨A,nA,cA,L1,m1,k1,q1,q2⟩:=hE.cu;have HQ1:=Zh q1;have HQ2:=Zh q2;have HGI:=Zh hgk;clear hE hxy q1 q2 hgk;rcases Yab j 2 with hlt2|hge2
    ·obtain⟨hL1,hj0⟩:=HLAT.out j hj1 hlt2
     rw[<- hI]at hL1;have hIn:I<n:=by omega
     have hIn':(I:Int)<(n:Int):=by omega
     have pI:(0:Int)<=(I:Int):=by omega
     obtain⟨pL,z,hpL,hz,a0,-,-⟩:=HE.out.ints.at I hIn;obtain rfl:=Ya9 (hL1.symm.trans hz);have hgap:=Qe0 HV.out HPL.out (Qdl j).1;have hhead:=Zwq HE.out.cu (u:=gapP l P (mJ j)) (v:=(Zqz l P j).length) (rest:=Zhl l P (j+1)) hlaP.1 hlaP.2 hgap.2 (Zy5 HV.out HPL.out) (Zu2 HPL.out hlt2 hj0) (t:=Zaq l (endP l P (mJ j))) (by rw[HLA.out];exact hgap.1);unfold at0 at hhead;have HHEAD:=Zh hhead;have HPASS:=Zh (Zu4 HPL.out hlt2 hj0);have HMJ:=Zh (Qdl j);have HLESS:=Zh (λh=>Zyo HV.out (m:=mJ j) (d:=d) HPL.out (Qdl j).1 h);have HJ0:=Zh (show j=1->endP l P (mJ j)=endP l P 4/\Zqz l P j=inB l P from λe=>by subst e;exact⟨rfl,rfl⟩);obtain⟨t,ht⟩:=Ze (Zaq l (endP l P (mJ j)));rw[<- ht]at HHEAD HLESS;have HTT:=Zh ht;obtain⟨v,hv⟩:=Ze ((Zqz l P j).length);rw[<- hv]at HHEAD;have HVV:=Zh hv;obtain⟨M,hM⟩:=Ze (mJ j);rw[<- hM]at a0 HPASS HMJ HLESS HTT;have HM:=Zh hM;have HI:=Zh hI;subst hpL;have hw5:IntKind.i64.wrap ((I:Int)+1)=(I:Int)+1:=Ybo _ (by omega);clear hL1 hz hgap hhead ht hv hj0 hM hI;go_wp2_with fail;refine HHEAD.out.mono ?_;rintro e w3 ⟨rfl,hc3,hk3⟩;have HE3:=Zh (HE.out.step hn3.1 hc3 hk3);have y0:=HE3.out.part.cell 0;have y1:=HE3.out.part.cell 1;have z0:=HE3.out.part.frozen 0;have z1:=HE3.out.part.frozen 1;simp only[lz0,lz1,lz2]at y0 y1;obtain⟨w4,hw4⟩:=Ze ((w3.setCell ⟨g,0,none⟩ (.int .i64 t)).setCell ⟨g,1,none⟩ (.int .i64 v));have HE4:=Zh (HE3.out.put t v);rw[<- hw4]at HE4;have HW4:=Zh hw4;clear hc3 hk3 hw4 a0;go_upto_region 7 with fail;rw[<- HW4.out];clear y0 y1 z0 z1;have y0:=HE4.out.part.cell 0;have y1:=HE4.out.part.cell 1;simp only[lz0,lz1,lz2]at y0 y1;by_cases htd:t<d
     ·have d2:decide (t<d)=true:=Yb0 htd
      have hvl:v<=(Zhl l P (j+1)).length:=by rw[HPASS.out,HVV.out,Yaq];omega
      have hdrop:(Zhl l P (j+1)).drop v=Zdv l (P+M):=by rw[HPASS.out,HVV.out,Ya3]
      have hpass:=Zn6 HE4.out.cu (t:=t) (v:=v) (mm:=M) hvl (by omega) (by omega) (by omega) (by have:=HMJ.out;omega);rw[hdrop]at hpass;unfold at0 at hpass;have HPA:=Zh hpass;clear hvl hdrop hpass;go_wp2_with fail;refine HPA.out.mono ?_;rintro e w5 ⟨rfl,hc5,hk5⟩;have HC5:=Zh hc5;have HK5:=Zh (Zcs HE4.out.kept hk5);clear hc5 hk5;go_wp2;go_roundg (5000-(P+M));case rel=>
       have h1:=HMJ.out;have h2:=HLESS.out htd;have h3:=HNN.out;refine⟨P+M,rfl,by omega,by omega,by omega,λi i1 i2=>h2 i (by unfold endP;omega),?_,HK5.out⟩;have h4:=HC5.out;rw[show Zaq l (min (P+M) N)=t by rw[HTT.out,h3,Zp2]];simpa using h4
      all_goals (have:=HMJ.out;have:=HGK.out;omega)
     ·have d2:decide (t<d)=false:=Ybt htd
      go_wp2;go_roundg (2-(j+1));case rel=>
       refine⟨j+1,t,v,by omega,by omega,rfl,by have:=HI.out;go_num,λe=>?_,HE4.out⟩;obtain⟨h1,h2⟩:=HJ0.out (by omega);refine⟨by rw[HTT.out,HM.out,h1],by rw[HVV.out,h2],by omega⟩
      all_goals (have:=HGI.out;omega)
    ·have hj:j=2:=by omega
     subst hj;have hIn:I=n:=by omega
     have hIl:¬ ((I:Int)<(n:Int)):=by omega
     have dI:decide ((I:Int)<(n:Int))=false:=Ybt (by omega);obtain⟨hx,hy,hxd⟩:=HXY.out rfl;obtain⟨sz,hsz⟩:=Ze ((inB l P).length);rw[<- hsz]at hy;subst hy;have hm1:(Zhl l P 2).length=m1:=by have:=HQ2.out.lf.1.2.1.len;simpa using this
     have hcat:Zhl l P 2=inB l P++Zdv l (P+4):=rfl;have hsm:sz<=m1:=by rw[<- hm1,hcat,Yaq];omega
     have hmk:=HQ2.out.room;have htk:(Zhl l P 2).take sz=inB l P:=by rw[hcat,hsz,List.take_left]
     have hE4:endP l P 4<=l.length:=by unfold endP;omega
     have hPE:P<=endP l P 4:=by have:=HPL.out;unfold endP;omega
     obtain⟨u0,hu0⟩:=Ze wr.drew;have hb0:Below wr.heap.size wr u0:=by rw[hu0];exact(Ybm _ wr).drew
     have hby:=(HQ2.out.lf.1.below hb0).upto sz hsm;rw[htk]at hby;have hread:=Zyw u0 L1 sz k1 HV.out hPE hE4 hby (by omega) (by omega) (d0:=la) HLA.out;have HREAD:=Zh hread;have hsl:=λw=>Zgr w L1 m1 k1 sz (by omega);have x1:=HQ1.out.cell 1;have x2:=HQ1.out.cell 2;have x3:=HE.out.part.cell 1;simp only[lz0,lz1,lz2]at x1 x2 x3;have HB0:=Zh hb0;have HU0:=Zh hu0;have HX:=Zh hx;have HXD:=Zh hxd;have HSZ:=Zh hsz;have HCAT:=Zh hcat;have HI:=Zh hI;have hEx:∀ (X:Value) (u:World),Blk u b 145 #[X,.slice L1 m1 k1,.int .i64 la,.int .i64 P,.int .i64 N,.int .i64 r]->u.cell? ⟨g,1,none⟩=some (.int .i64 (sz:Int))->u.cell? ⟨b,1,none⟩=some (.slice L1 m1 k1)/\u.cell? ⟨g,1,none⟩=some (.int .i64 (sz:Int))/\u.cell? ⟨b,2,none⟩=some (.int .i64 la):=λX u h1 h2=>⟨by simpa using h1.cell 1,h2,by simpa using h1.cell 2⟩
     have HEX:=Zh hEx;clear hb0 hu0 hby htk hread hx hxd hm1 hsz hcat hI hEx hE4 hPE;go_wp2_with fail;refine Yb8 (S:=λw'=>w'.cell? ⟨b,1,none⟩=some (.slice L1 m1 k1)/\w'.cell? ⟨g,1,none⟩=some (.int .i64 (sz:Int))/\w'.cell? ⟨b,2,none⟩=some (.int .i64 la)) (by kernel_rfl) ?_ (λhHeld=>?_)
     ·exact⟨x1,x3,x2⟩
     rw[<- HU0.out]at hHeld ⊢;refine tk 0 ?_ (hy:=by((intro w hSw;obtain⟨hS1,hS2,hS3⟩:=hSw;go_simp);first|done|with_reducible rfl));(try simp only[Act.put,lz3,lz4,lz5]);refine tk 1 ?_ (hy:=by((intro w hSw;obtain⟨hS1,hS2,hS3⟩:=hSw;go_simp);first|done|with_reducible rfl));(try simp only[Act.put,lz3,lz4,lz5]);refine tk 2 ?_ (hy:=by((intro w hSw;obtain⟨hS1,hS2,hS3⟩:=hSw;go_simp);first|done|with_reducible rfl));(try simp only[Act.put,lz3,lz4,lz5]);refine tk 3 ?_ (hy:=by((intro w hSw;obtain⟨hS1,hS2,hS3⟩:=hSw;go_simp);first|done|with_reducible rfl));(try simp only[Act.put,lz3,lz4,lz5]);refine tk 4 ?_ (hy:=by((intro w hSw;obtain⟨hS1,hS2,hS3⟩:=hSw;go_simp);first|done|with_reducible rfl));(try simp only[Act.put,lz3,lz4,lz5]);refine tk 5 ?_ (hy:=by((intro w hSw;obtain⟨hS1,hS2,hS3⟩:=hSw;go_simp);first|done|with_reducible rfl));(try simp only[Act.put,lz3,lz4,lz5]);refine tk 6 ?_ (hy:=by((intro w hSw;obtain⟨hS1,hS2,hS3⟩:=hSw;go_simp);first|done|with_reducible rfl));(try simp only[Act.put,lz3,lz4,lz5]);refine tk 7 ?_ (hy:=by((intro w hSw;obtain⟨hS1,hS2,hS3⟩:=hSw;go_simp);first|done|with_reducible rfl));(try simp only[Act.put,lz3,lz4,lz5]);refine tk 8 ?_ (hy:=by((intro w hSw;obtain⟨hS1,hS2,hS3⟩:=hSw;go_simp);first|done|with_reducible rfl));(try simp only[Act.put,lz3,lz4,lz5]);refine tk 9 ?_ (hy:=by((intro w hSw;obtain⟨hS1,hS2,hS3⟩:=hSw;go_simp);first|done|with_reducible rfl));(try simp only[Act.put,lz3,lz4,lz5]);refine tk 10 ?_ (hy:=by((intro w hSw;obtain⟨hS1,hS2,hS3⟩:=hSw;go_simp);first|done|with_reducible rfl));(try simp only[Act.put,lz3,lz4,lz5]);refine tk 11 ?_ (hy:=by((intro w hSw;obtain⟨hS1,hS2,hS3⟩:=hSw;go_simp);first|done|with_reducible rfl));(try simp only[Act.put,lz3,lz4,lz5]);refine rd1 12 ?_;intro K hK;go_simp;refine HREAD.out.mono ?_;rintro e u1 ⟨pv,rfl,hpo,hb1⟩;have hb01:Below wr.heap.size wr u1:=Zaa HB0.out hb1 HB0.out.size;have HBL:=Zh hb01;have HPO:=Zh hpo;have HBU:=Zh hb1;have hq1:=HQ1.out.below hb01 HQ1.out.lt;have hp1:=HE.out.part.below hb01 HE.out.part.lt;have HQ11:=Zh hq1;have HP1:=Zh hp1;have hS1:=HEX.out _ u1 hq1 (by simpa using hp1.cell 1);obtain⟨PA,PN,PC,hpv⟩:∃ A n c,pv=.slice A n c:=by
      obtain⟨_,_,h1,_⟩:=hpo;obtain⟨A,c,e⟩:=Zac h1;exact⟨A,_,c,e⟩
     subst hpv;clear hb1 hpo hb01 hq1 hp1;go_wp2_with fail;refine hK.out _ _ hS1 (λ_=>?_);clear hK K;refine tk 13 ?_ (hy:=by((intro w hSw;obtain⟨hS1,hS2,hS3⟩:=hSw;go_simp);first|done|with_reducible rfl));(try simp only[Act.put,lz3,lz4,lz5]);refine tk 14 ?_ (hy:=by((intro w hSw;obtain⟨hS1,hS2,hS3⟩:=hSw;go_simp);first|done|with_reducible rfl));(try simp only[Act.put,lz3,lz4,lz5]);refine rd1 15 ?_;intro K hK;have y0:=HQ11.out.cell 0;have z0:=HQ11.out.frozen 0;simp only[lz0,lz1,lz2]at y0;go_simp;clear y0 z0;obtain⟨u2,hu2⟩:=Ze (u1.setCell ⟨b,0,none⟩ (.slice PA PN PC));rw[<- hu2];have hq2:Blk u2 b 145 #[.slice PA PN PC,.slice L1 m1 k1,.int .i64 la,.int .i64 P,.int .i64 N,.int .i64 r]:=by rw[hu2];simpa using HQ11.out.set_ 0 (.slice PA PN PC)
     have hp2:Blk u2 g 270 #[.int .i64 x,.int .i64 sz]:=by rw[hu2];exact HP1.out.far (by simp only;omega) _
     have HQ12:=Zh hq2;have HP2:=Zh hp2;have hS2:=HEX.out _ u2 hq2 (by simpa using hp2.cell 1);have HU2:=Zh hu2;clear hq2 hp2 hu2;refine hK.out _ _ hS2 (λ_=>?_);clear hK K;refine Yb9 (by kernel_rfl) ?_ _;clear x1 x2 x3 hS1 hS2;have y5:=HQ12.out.cell 5;have z5:=HQ12.out.frozen 5;have x0:=HP2.out.cell 0;have x1:=HP2.out.cell 1;simp only[lz0,lz1,lz2]at y5 x0 x1;have hwr:IntKind.i64.wrap ((r:Int)+1)=(r:Int)+1:=Ybo _ (by omega);obtain⟨u3,hu3⟩:=Ze (u2.setCell ⟨b,5,none⟩ (.int .i64 ((r:Int)+1)));have hq3:Blk u3 b 145 #[.slice PA PN PC,.slice L1 m1 k1,.int .i64 la,.int .i64 P,.int .i64 N,.int .i64 ((r:Int)+1)]:=by rw[hu3];simpa using HQ12.out.set_ 5 (.int .i64 ((r:Int)+1))
     have hk13:Kept (λi=>i=b) u1 u3:=by rw[hu3,HU2.out];exact Ze2 (Ze2 (Kept.refl _ u1) 0 _) 5 _
     have hseF:PostsF u1 (λi=>u0.heap.size<=i/\i<u1.heap.size) PA PN (sl l P (endP l P 4)):=by
      have h1:=HPO.out;have hlen:(sl l P (endP l P 4)).length=PN:=by
       obtain⟨_,_,h2,_⟩:=h1;obtain⟨_,_,e⟩:=Zac h2;simp only[Value.slice.injEq]at e;exact e.2.1.symm
      exact h1.seeF hlen (by have h2:=Zog (l:=l) (x:=P) (y:=endP l P 4) (by unfold endP;omega);have h3:endP l P 4-P<=4:=(by unfold endP;omega);rw[hlen]at h2;unfold maxLen;omega)
     have hbu:b<u0.heap.size:=by have h1:=HQ1.out.lt;have h2:=HB0.out.size;omega
     have hcap:PN<=PC:=by
      obtain⟨_,_,h2,_⟩:=HPO.out;obtain⟨_,_,e⟩:=Zac h2;simp only[Value.slice.injEq]at e;rw[e.2.1];rw[e.2.1]at h2;exact Zbi h2
     have hci1:CuIn u1 (λi=>F i\/(u0.heap.size<=i/\i<u1.heap.size)) b PA PN PC L1 m1 k1 (sl l P (endP l P 4)) (Zhl l P 2):={
      po:=hseF.mono λi hi=>⟨.inr hi,by omega⟩
      cap:=hcap
      lf:=((HQ2.out.lf.keep (λi hi=>HBL.out.block i (HQ2.out.low i hi.1)) HBL.out.size).mono λi hi=>⟨.inl hi.1,hi.2⟩)
      room:=HQ2.out.room
      own:=.inl HQ2.out.own
      low:=λi hi=>hi.elim (λh=>Ya7 (HQ2.out.low i h) HBL.out.size) (λh=>h.2) }
     have hcu3:CuRaw u3 (λi=>F i\/(u0.heap.size<=i/\i<u1.heap.size)) b (sl l P (endP l P 4)) (Zhl l P 2) la P N ((r:Int)+1):=⟨_,_,_,_,_,_,hq3,hci1.kept hk13⟩
     have hpass:=Zn6 hcu3 (t:=x) (v:=sz) (mm:=4) (by rw[HCAT.out,HSZ.out,Yaq];omega) (by omega) (by omega) (by omega) (by omega);rw[show(Zhl l P 2).drop sz=Zdv l (P+4) by rw[HCAT.out,HSZ.out,Ya3]]at hpass;unfold at0 at hpass;have HPASS:=Zh hpass;have HU3:=Zh hu3;have HK13:=Zh hk13;have hbu0:=HB0.out.size;clear hq3 hk13 hseF hcap hci1 hcu3 hpass hu3;go_wp2_with fail;rw[<- HU3.out];refine HPASS.out.mono ?_;rintro e u4 ⟨rfl,hc4,hk4⟩;have HC4:=Zh hc4;have HK4:=Zh (Zcs HK13.out hk4);clear hc4 hk4;go_wp2;(try rw[Exit.noGoto_ret]);go_ret;have hNl:=HNN.out;have hxx:=HX.out;refine .inl ⟨rfl,P,(λi=>F i\/(u0.heap.size<=i/\i<u1.heap.size)),hP0,hP4,by omega,λi h1 h2=>HL.out i h1 (by omega),by rw[<- hxx];exact HXD.out,?_,?_,?_⟩
     ·have h1:=HC4.out
      rw[hxx]at h1;rw[<- hNl];push_cast;exact h1
     ·exact(Zcs (Zcs HE.out.kept (Kept.below HBL.out)) HK4.out).mono (λi e=>by subst e;exact HQ2.out.own)
     ·intro i hi
      rcases hi with h1|⟨h1,_⟩
      ·exact .inl h1
      ·right
       have:=HE.out.kept.size
       omega
  ·have d1:decide ((P:Int)<(N:Int))=false:=Ybt (by omega)
   have p1:¬ ((P:Int)<(N:Int)):=by omega
   go_wp2;go_quiet (fail);go_wp2;(try rw[Exit.noGoto_ret]);go_ret;have hC2:=HC.out.below (Zaf (Ybm _ wr) nq);refine .inr ⟨rfl,P,by rw[<- HNN.out];omega,hP4,by rw[<- HNN.out];omega,λi h1 h2=>HL.out i h1 (by have:=HNN.out;omega),?_,(Zcs HK.out (Kept.below (Zaf (Ybm _ wr) nq))).mono (λi e=>by subst e;exact HC.out.low.1)⟩;rw[<- HNN.out];exact hC2
def Zgc (w:World) (F:Nat->Prop) (b:Nat) (l:List Pst) (a P r:Nat) (d:Int) (e:Ending) (w':World):Prop:=
 ∃ (t:Nat) (F':Nat->Prop),IsFirst l d a t/\e=.returned (.bool (decide (t<l.length)))/\Kept F w w'/\(∀ i,F' i->F i\/w.heap.size<=i)/\∃ P' r':Nat,P' % 4=0/\P'<=l.length+16/\(t<l.length->P'=4*(t/4+1))/\t<=min P' l.length/\CuRaw w' F' b (sl l t (min P' l.length)) (Zdv l P') (Zaq l (min P' l.length)) P' l.length r'/\
  ((r'=r/\(t=l.length\/(a<min P l.length/\t/4=a/4)))\/(r'=r+1/\t<l.length/\(a<min P l.length->a/4<t/4)))
theorem Zl9 {w:World} {F:Nat->Prop} {b:Nat} {l:List Pst} (hV:ValidP l) {a P r:Nat} (h:CuRaw w F b (sl l a (min P l.length)) (Zdv l P) (Zaq l (min P l.length)) P l.length r) (h4:P % 4=0) (h16:P<=l.length+16) (ha:a<=min P l.length) (hb:a<min P l.length->P=4*(a/4+1)) (hr:r<=9000) (d:Int):
  Calls Tryz.prog 120 #[.pointer (some ⟨b,0,none⟩),.int .i64 d] w (Zgc w F b l a P r d):=by
 have hpl:(sl l a (min P l.length)).length=min P l.length-a:=Zog (by omega);have hfew:=hV.few;have hsk:=Zmv h d (by rw[hpl];omega);unfold at0 at hsk;have HSK:=Zh hsk;have HV:=Zh hV;have HF:=Zh h.low;have HPL:=Zh hpl;have HAB:=Zh (And.intro ha hb);obtain⟨N,hN⟩:=Ze l.length;rw[<- hN]at hfew h16;have HNN:=Zh hN;clear h hV hpl hsk ha hb hN;go_enter Tryz.func120,Tryz.ntmps120;go_wp2_with fail;refine HSK.out.mono ?_;rintro e w1 ⟨t,po',rfl,hsi,hc1,hk1⟩;have HC1:=Zh hc1;have HK1:=Zh (hk1.mono (F':=F) (λi e=>by subst e;exact HF.out.1));clear hk1;rcases hsi with⟨rfl,hall,rfl⟩|⟨rfl,k,hk,hless,hhere,rfl⟩
 ·have hen:=Zvn HV.out hc1 h4 (by rw[<- HNN.out];exact h16) (by omega) d
  unfold at0 at hen;have HEN:=Zh hen;have hall2:∀ i,a<=i->i<min P l.length->(pAt l i).1<d:=λi i1 i2=>by
   have h1:=hall (i-a) (by rw[HPL.out];omega);rw[Zkr (by omega)]at h1
   rwa [show a+(i-a)=i by omega]at h1
  have HALL:=Zh hall2;clear hc1 hall hall2 hen;go_wp2_with fail;refine HEN.out.mono ?_;rintro e w2 (⟨rfl,P1,F',q1,q2,q3,q4,q5,q6,q7,q8⟩|⟨rfl,P1,q1,q2,q3,q4,q5,q6⟩)
  ·have hE:endP l P1 4<=l.length:=by unfold endP;omega
   have hpl2:(sl l P1 (endP l P1 4)).length=endP l P1 4-P1:=Zog hE;have hsk2:=Zmv q6 d (by rw[hpl2];unfold endP;omega);unfold at0 at hsk2;have HSK2:=Zh hsk2;have HQ:=Zh (And.intro q1 (And.intro q2 (And.intro q3 (And.intro q4 q5))));have HK2:=Zh (HK1.out.trans q7 (λi _ hi=>hi));have HF2:=Zh q8;have HLO:=Zh q6.low;have HK1S:=Zh HK1.out.size;have HPL2:=Zh hpl2;clear q1 q2 q3 q4 q5 q6 q7 q8 hpl2 hsk2 hE;go_wp2_with fail;refine HSK2.out.mono ?_;rintro e w3 ⟨t,po',rfl,hsi,hc3,hk3⟩;obtain⟨q1,q2,q3,q4,q5⟩:=HQ.out;have hE1:P1<endP l P1 4/\endP l P1 4<=P1+4/\endP l P1 4<=l.length:=by unfold endP;omega
   rcases hsi with⟨-,hall,-⟩|⟨rfl,k,hk,hless,hhere,rfl⟩
   ·exfalso
    have h1:=hall (endP l P1 4-1-P1) (by rw[HPL2.out];omega);rw[Zkr (by omega),show P1+(endP l P1 4-1-P1)=endP l P1 4-1 by omega,<- Zj1 q3 (by omega)]at h1;omega
   ·have hk2:k<endP l P1 4-P1:=by rw[HPL2.out]at hk;exact hk
    have hfin:Zgc w F b l a P r d (.returned (.bool true)) w3:=by
     refine⟨P1+k,F',⟨by have:=HAB.out.1;omega,by omega,λi i1 i2=>?_,λ_=>?_⟩,?_,?_,λi hi=>?_,P1+4,r+1,by omega,by omega,λ_=>by omega,by omega,?_,.inr ⟨rfl,by omega,λh=>?_⟩⟩
     ·rcases Yab i (min P l.length)with h1|h1
      ·exact HALL.out i i1 h1
      ·rcases Yab i P1 with h2|h2
       ·exact q4 i (by omega) h2
       ·have h3:=hless (i-P1) (by omega)
        rw[Zkr (by omega)]at h3
        rwa [show P1+(i-P1)=i by omega]at h3
     ·have h3:=hhere
      rwa [Zkr (by omega)]at h3
     ·rw[Yb0 (by omega)]
     ·exact HK2.out.trans (F':=λi=>i=b) hk3 (λi hi e=>by subst e;exact HF.out.1)
     ·rcases HF2.out i hi with h1|h1
      ·exact .inl h1
      ·right;have:=HK1S.out;omega
     ·rw[Zxk]at hc3
      rw[Zp2,show min (P1+4) l.length=endP l P1 4 by unfold endP;omega];exact hc3
     ·have:=HAB.out.2 h
      omega
    have HFIN:=Zh hfin;clear hc3 hk3 hk hless hhere hfin q1 q2 q3 q4 q5 hE1 hk2;go_wp2;go_ret;exact HFIN.out
  ·have hfin:Zgc w F b l a P r d (.returned (.bool false)) w2:=by
    refine⟨l.length,F,⟨by have:=HAB.out.1;omega,by omega,λi i1 i2=>?_,λh=>by omega⟩,?_,HK1.out.trans q6 (λi _ hi=>hi),λi hi=>.inl hi,P1,r,q2,q3,λh=>by omega,by omega,?_,.inl ⟨rfl,.inl rfl⟩⟩
    ·rcases Yab i (min P l.length)with h1|h1
     ·exact HALL.out i i1 h1
     ·exact q4 i (by omega) i2
    ·rw[Ybt (by omega)]
    ·rw[show min P1 l.length=l.length by omega,Znd]at *
     exact q5
   have HFIN:=Zh hfin;clear q1 q2 q3 q4 q5 q6 hfin;go_wp2;go_ret;exact HFIN.out
 ·have hk2:k<min P l.length-a:=by rw[HPL.out]at hk;exact hk
  have hfin:Zgc w F b l a P r d (.returned (.bool true)) w1:=by
   have hP:=HAB.out.2 (by omega);refine⟨a+k,F,⟨by omega,by omega,λi i1 i2=>?_,λ_=>?_⟩,?_,HK1.out,λi hi=>.inl hi,P,r,h4,by rw[<- HNN.out];exact h16,λ_=>by omega,by omega,?_,.inl ⟨rfl,.inr ⟨by omega,by omega⟩⟩⟩
   ·have h3:=hless (i-a) (by omega)
    rw[Zkr (by omega)]at h3
    rwa [show a+(i-a)=i by omega]at h3
   ·have h3:=hhere
    rwa [Zkr (by omega)]at h3
   ·rw[Yb0 (by omega)]
   ·have h3:=HC1.out
    rw[Zxk]at h3;exact h3
  have HFIN:=Zh hfin;clear hc1 hk hless hhere hfin hk2;go_wp2;go_ret;exact HFIN.out
def K0 (w:World) (F:Nat->Prop) (b:Nat) (s:CSt):Prop:=
 ValidP s.l/\∃ P:Nat,P % 4=0/\P<=s.l.length+16/\s.at_<=min P s.l.length/\(s.at_<s.l.length->P=4*(s.at_/4+1)/\s.last=(s.at_/4:Nat))/\CuRaw w F b (sl s.l s.at_ (min P s.l.length)) (Zdv s.l P) (Zaq s.l (min P s.l.length)) P s.l.length s.read
theorem Qdu {w w':World} {F:Nat->Prop} {b:Nat} {s:CSt} (h:K0 w F b s) (hk:∀ i,F i->w'.heap[i]?=w.heap[i]?) (hs:w.heap.size<=w'.heap.size):K0 w' F b s:=by
 obtain⟨h1,P,h2,h3,h4,h5,h6⟩:=h;exact⟨h1,P,h2,h3,h4,h5,h6.all hk hs⟩
theorem Qfn {w:World} {F:Nat->Prop} {b:Nat} {s:CSt} (h:K0 w F b s):∀ i,F i->i<w.heap.size:=by
 obtain⟨h1,P,h2,h3,h4,h5,h6⟩:=h;exact h6.low.2
theorem Qcr {w:World} {F:Nat->Prop} {b:Nat} {s:CSt} (h:K0 w F b s):∃ (A:Option Addr) (n c:Nat) (l:List Pst),w.cell? ⟨b,0,none⟩=some (.slice A n c)/\PostsSee w A n l/\(n=0↔s.l.length<=s.at_)/\(0<n->pAt l 0=pAt s.l s.at_):=by
 obtain⟨h1,P,h2,h3,h4,h5,A,n,c,L,m,k,h6,h7⟩:=h;have h8:=h7.po.1.len;rw[Zog (by omega)]at h8;refine⟨A,n,c,_,by simpa using h6.cell 0,h7.po.1,⟨λe=>?_,λe=>by omega⟩,λe=>?_⟩
 ·rcases Yab s.at_ s.l.length with h9|h9
  ·have:=(h5 h9).1;omega
  ·exact h9
 ·rw[Zkr (by omega)]
  rfl
theorem Qcv {w:World} {F:Nat->Prop} {b:Nat} {s:CSt} (h:K0 w F b s):Calls Tryz.prog 66 #[.pointer (some ⟨b,0,none⟩)] w λe w'=>e=.returned (.tuple #[.int .i64 (cDoc s),.bool (cIn s)])/\w'=w:=by
 obtain⟨A,n,c,l,c0,hs,h0,h1⟩:=Qcr h;clear h;unfold cDoc cIn;rcases Yai n with hn|hn
 ·have h2:=h0.1 hn
  rw[Yaf (by omega),Ybt (by omega)];subst hn;clear h0 h1 hs;go_enter Tryz.func66,Tryz.ntmps66;go_wp2;go_ret2;exact⟨rfl,rfl⟩
 ·have h2:s.at_<s.l.length:=by
   rcases Yab s.at_ s.l.length with h3|h3
   ·exact h3
   ·have:=h0.2 h3;omega
  rw[Yag h2,Yb0 h2];obtain⟨pa,x,SA,da,rfl,hx,-,a0,-,-,-⟩:=hs.at 0 hn;have hpx:=Zef hx;rw[h1 hn]at hpx;rw[hpx];have d1:((n:Int)==0)=false:=beq_eq_false_iff_ne.2 (by omega);have a0':w.cell? pa=some (.int .i64 x.1):=by simpa[Addr.add]using a0
  clear h0 h1 hs hx hpx h2;go_enter Tryz.func66,Tryz.ntmps66;go_wp2;go_ret2;exact⟨rfl,rfl⟩
theorem Zvl {s:CSt} (h:¬ (s.at_<s.l.length/\((s.at_/4:Nat):Int)≠s.last)):Zes s=s:=by
 unfold Zes;rw[Yaf h]
theorem Zvq {s:CSt} (h:s.at_<s.l.length/\((s.at_/4:Nat):Int)≠s.last):Zes s={ s with read:=s.read+1,last:=(s.at_/4:Nat) }:=by
 unfold Zes;rw[Yag h]
theorem Ztd {w w':World} {F:Nat->Prop} {b:Nat} {s:CSt} {d:Int} {e:Ending} (hV:ValidP s.l) {P:Nat} (hat:s.at_<=s.l.length) (hP:s.at_<min P s.l.length->s.last=(s.at_/4:Nat)) (hn:s.at_<s.l.length->¬ s.at_<min P s.l.length->s.last=-1) (h:Zgc w F b s.l s.at_ P s.read d e w'):
  e=.returned (.bool (cIn (Zlb s d)))/\∃ F',K0 w' F' b (Zlb s d)/\Kept F w w'/\∀ i,F' i->F i\/w.heap.size<=i:=by
 obtain⟨t,F',h1,rfl,h3,h4,P',r',h5,h6,h7,h8,h9,h10⟩:=h;have hc:Zlb s d=Zes { s with at_:=t }:=by
  unfold Zlb;rw[show Zhz s.l d (s.l.length-s.at_) s.at_=t from h1.eq hat]
 refine⟨?_,F',?_,h3,h4⟩
 ·rw[hc,Zzs]
  rfl
 ·rw[hc]
  rcases h10 with⟨rfl,h10⟩|⟨rfl,h10,h11⟩
  ·rw[Zvl (s:={ s with at_:=t }) (by
    simp only;rcases h10 with h10|⟨h10,h12⟩
    ·omega
    ·have:=hP h10
     rw[this,h12];simp)]
   refine⟨hV,P',h5,h6,h8,λh=>⟨h7 h,?_⟩,h9⟩;simp only at h ⊢;rcases h10 with h10|⟨h10,h12⟩
   ·omega
   ·rw[h12];exact hP h10
  ·have hne:((t/4:Nat):Int)≠s.last:=by
    by_cases hm:s.at_<min P s.l.length
    ·have h12:=h11 hm
     have h13:=hP hm;omega
    ·by_cases ha:s.at_<s.l.length
     ·have:=hn ha hm
      omega
     ·have:=h1.from_
      omega
   rw[Zvq (s:={ s with at_:=t }) ⟨h10,hne⟩];exact⟨hV,P',h5,h6,h8,λ_=>⟨h7 h10,rfl⟩,h9⟩
theorem Qd0 {w:World} {F:Nat->Prop} {b:Nat} {s:CSt} (h:K0 w F b s) (hw:CWF s) (d:Int):Calls Tryz.prog 120 #[.pointer (some ⟨b,0,none⟩),.int .i64 d] w λe w'=>e=.returned (.bool (cIn (Zlb s d)))/\∃ F',K0 w' F' b (Zlb s d)/\Kept F w w'/\∀ i,F' i->F i\/w.heap.size<=i:=by
 obtain⟨h1,P,h2,h3,h4,h5,h6⟩:=h;have q1:=hw.few;have q2:=hw.last;have q3:=hw.read;have q4:=hw.at_;exact(Zl9 h1 h6 h2 h3 h4 (λhm=>(h5 (by omega)).1) (by omega) d).mono λe w' ho=>Ztd h1 hw.at_ (λhm=>(h5 (by omega)).2) (λha hm=>by have:=(h5 ha).1;omega) ho
theorem Qe9 (w:World) (A:Option Addr) (n c:Nat) (x:Nm) (hx:BytesIn w A n x) (hc:n<=c) (hn:n<=1099511627776) (hE:(getP x).2=0):Calls Tryz.prog 68 #[.slice A n c] w λe w'=>∃ b F,e=.returned (.tuple #[.pointer (some ⟨b,0,none⟩),.int .i64 0])/\Below w.heap.size w w'/\K0 w' F b (Zf7 (getP x).1)/\∀ i,F i->w.heap.size<=i:=by
 have HG:=Zh (Zti w A n c x hx hc hn);unfold Zkn at HG;rw[hE]at HG;obtain⟨hck,hpx⟩:=Zh9 hE;have hV:=(Zex Zm3).1 hck;obtain⟨l,hl⟩:=Ze ((getP x).1);rw[<- hl]at hV hpx HG ⊢;have hfew:=hV.few;have hxx:x=putL l.length++Zdv l 0:=by rw[<- hpx];rfl
 have HX:=Zh hx;have HV:=Zh hV;have HXX:=Zh hxx;clear hx hE hck hpx hl hV hxx hc;go_enter Tryz.func68,Tryz.ntmps68;go_wp2_with fail;refine HG.out.mono ?_;rintro e w1 ⟨v,rfl,ho,hb⟩;have HB:=Zh hb;have HCL:=Zh (Ze3 w1 A n c x (HX.out.below hb) (by omega));clear ho hb;go_wp2_with fail;refine HCL.out.mono ?_;rintro e w2 ⟨v2,rfl,ho2,hb2⟩;have HO2:=Zh ho2;have HB2:=Zh (Zaa HB.out hb2 HB.out.size);have hz12:=hb2.size;have hz1:=HB.out.size;obtain⟨L,k,rfl,hnk⟩:=Za0 ho2;clear ho2 hb2;obtain⟨g,hg⟩:=Ze w2.heap.size;obtain⟨w3,hw3⟩:=Ze (w2.alloc (.cells #[.slice none 0 0,.slice L n k,.int .i64 (-1),.int .i64 0,.int .i64 0,.int .i64 0] 145));have hb3:Below w2.heap.size w2 w3:=by rw[hw3];exact(Ybm _ w2).alloc (Yar _) _
 have hblk:Blk w3 g 145 #[.slice none 0 0,.slice L n k,.int .i64 (-1),.int .i64 0,.int .i64 0,.int .i64 0]:=by rw[hw3,hg];exact Blk.new _ _ _
 have hs3:w3.heap.size=g+1:=by rw[hw3,hg];simp
 have hlf:BytesF w3 (λi=>(w.heap.size<=i/\i<=g)/\i≠g) L n x:=by
  have h1:=(BytesIn.own HO2.out (by unfold maxLen;omega)).below hb3;refine⟨h1,λad e _=>?_⟩;have h2:=HO2.out.lt ad.block (by rw[e];rfl);simp only;omega
 have hcu:CuRaw w3 (λi=>w.heap.size<=i/\i<=g) g [] x (-1) 0 0 0:=⟨_,_,_,_,_,_,hblk,⟨PostsF.nil _ _,Yar _,hlf,⟨hnk,hn⟩,⟨by omega,Yar _⟩,λi hi=>by omega⟩⟩
 have hnum:=Zm5 hcu (v:=l.length) (rest:=Zdv l 0) (by omega) HXX.out;unfold at0 at hnum;have HNUM:=Zh hnum;have HB3:=Zh (Zaa HB2.out hb3 HB2.out.size);have HW3:=Zh hw3;have HGG:=Zh hg;clear hb3 hblk hlf hcu hnum hw3;rw[hg]at HNUM;go_wp2_with fail;rw[<- HW3.out];refine HNUM.out.mono ?_;rw[<- hg];clear hg;rintro e w4 ⟨rfl,hc4,hk4⟩;have hlo:=hc4.low;obtain⟨A4,n4,c4,L4,m4,k4,q1,q2⟩:=hc4;have y4:=q1.cell 4;have z4:=q1.frozen 4;simp only[lz0,lz1,lz2]at y4;obtain⟨w5,hw5⟩:=Ze (w4.setCell ⟨g,4,none⟩ (.int .i64 l.length));have hk5:Kept (λi=>i=g) w4 w5:=by rw[hw5];exact Ze2 (Kept.refl _ w4) 4 _
 have hq5:CuRaw w5 (λi=>w.heap.size<=i/\i<=g) g [] (Zdv l 0) (-1) 0 l.length 0:=by
  refine⟨A4,n4,c4,L4,m4,k4,?_,q2.kept hk5⟩;rw[hw5];simpa using q1.set_ 4 (.int .i64 l.length)
 have hm0:min 0 l.length=0:=by omega
 have hsk:=Zl9 HV.out (a:=0) (P:=0) (r:=0) (by rw[hm0,Znd];exact hq5) rfl (by omega) (by omega) (λh=>by omega) (by omega) 0;have HSK:=Zh hsk;have HK5:=Zh (Zcs hk4 hk5);have HW5:=Zh hw5;clear hk4 hk5 hq5 hsk hw5 q1 q2 hlo;go_wp2_with fail;rw[<- HW5.out];refine HSK.out.mono ?_;rintro e w6 ho;obtain⟨he,F',h1,h2,h3⟩:=Ztd (s:=⟨l,0,0,-1⟩) HV.out (Ybd _) (λh=>by simp at h) (λ_ _=>rfl) ho;have hst:Zlb ⟨l,0,0,-1⟩ 0=Zf7 l:=by
  have hf:IsFirst l 0 0 0:=⟨Yar _,Ybd _,λi _ h=>by omega,λh=>(HV.out.docs _ (Zay h)).1⟩
  unfold Zlb Zf7;rw[show Zhz l 0 (l.length-0) 0=0 from hf.eq (Ybd _)]
 rw[hst]at he h1;have HK6:=Zh (And.intro h1 (And.intro h2 h3));subst he;clear ho h1 h2 h3 hst;go_wp2;go_ret2;have hsz:=HB3.out.size;have hb5:Below w.heap.size w w5:=HB3.out.trans (HK5.out.toBelow (by omega) (λi (e:i=g)=>by have h1:=HGG.out;have h2:=HB2.out.size;omega));refine⟨g,F',rfl,hb5.trans (HK6.out.2.1.toBelow hb5.size (λi hi=>hi.1)),HK6.out.1,λi hi=>?_⟩;rcases HK6.out.2.2 i hi with h|h
 ·exact h.1
 ·have:=hb5.size;omega
end Go.Proofs.YthcjikpabpgpfaaGreat
