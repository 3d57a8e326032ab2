import Derived.Test.YthcjikpabpgpfaaGreatZp6
import Derived.Test.YthcjikpabpgpfaaGreatZp5
import Derived.Deep.QuietTactic
import Derived.BigQuiet
import Derived.Laws.StructEq
import Derived.Deep.RegionHeld3
import Derived.Lib.SmallJoins
import Derived.Lib.MinMax
import Derived.Deep.DeepCutAuto
import Derived.Shelf.Abstract
import Derived.Test.YthcjikpabpgpfaaGreatZp7
import Derived.StillTailTactics
import Derived.RegionTactic
import Derived.ChangeAlike
set_option linter.unusedSimpArgs false
set_option maxHeartbeats 16000000
set_option maxRecDepth 100000
namespace Go.Proofs.YthcjikpabpgpfaaGreat
section
open Go.RowKit Go.Maps Go.WideMaps
theorem Znz {l:List Int} {p:Int} (h:Za4 p l=true):∀ y∈l,p<y:=by
 induction l generalizing p with
 | nil=>intro y hy;cases hy
 | cons x l ih=>
  simp only[Za4,Yal,decide_eq_true_eq]at h;intro y hy;rcases Yat.1 hy with rfl|hy
  ·exact h.1
  ·have:=ih h.2 y hy;omega
theorem BytesIn.grownOther {w w':World} {A:Option Addr} {n:Nat} {l:Nm} {row:Option Nat} (h:BytesIn w A n l) (hg:w.grownBy w' row) (hne:∀ ad,A=some ad->row≠some ad.block):BytesIn w' A n l:=
 ⟨h.1,h.2.1.keep λad e h0=>hg.block _ (h.2.2 ad e h0) (λe2=>hne ad e e2.symm),λad e h0=>Ya7 (h.2.2 ad e h0) hg.size⟩
theorem ValidP.ahead {l:List Pst} (h:ValidP l) {f:Nat}:∀ {k:Nat},f+k<l.length->Zaq l f<(pAt l (f+k)).1
 | 0,hk=>h.up f hk
 | k+1,hk=>by
  have h1:=h.ahead (f:=f) (k:=k) (by omega);have h2:=h.up (f+(k+1)) hk;unfold Zaq at h2;rw[Yaf (by omega),show f+(k+1)-1=f+k by omega]at h2;omega
theorem ValidP.last_lt {l:List Pst} (h:ValidP l) {f t:Nat} (hf:f<t) (ht:t<=l.length):Zaq l f<(pAt l (t-1)).1:=by
 have:=h.ahead (f:=f) (k:=t-1-f) (by omega)
 rwa [show f+(t-1-f)=t-1 by omega]at this
theorem ValidP.doc_le {l:List Pst} (h:ValidP l) {t:Nat} (h0:0<t) (ht:t<=l.length):(pAt l (t-1)).1<=4294967296:=(h.docs _ (Zay (by omega))).2
theorem Zv8 {w:World} {A:Option Addr} {n:Nat} {l:List Pst} (h:PostsSee w A n l):FitP l:=by
 intro x hx s hs;obtain⟨i,hi⟩:=List.getElem?_of_mem hx;cases A with
 | none=>
  have h0:=h.nil rfl;have h1:=h.len;have:l=[]:=Ya0 (by omega);subst this;cases hx
 | some ad=>
  obtain⟨_,_,B,c,_,_,h4⟩:=h.at_ ad rfl i x hi;have:=h4.vals s hs
  unfold Zaj at this;omega
def putE (l:List Pst):List UInt8:=if Zb3 l=0 then putP l else []
def Zm1 (w:World) (l:List Pst) (e:Ending) (w':World):Prop:=
 ∃ v,e=.returned (.tuple #[v,.int .i64 (Zb3 l)])/\w'.ownsRow w.heap.size 5 1 v (putE l).length ((putE l).map byteV)/\Below w.heap.size w w'
theorem Zp1 {l:List Pst} (h:ValidP l) {f t:Nat} (hf:f<=l.length) (ht:t<=l.length) {b:List UInt8} (hb:b.length<18446744073709551616):(Zdl l f t b).length<=20:=by
 unfold Zdl;have h1:=Zao _ (Zg4 h ht hf);have h2:=Zao b.length hb;rw[Yaq];omega
theorem Zms {l:List Pst} {i k t:Nat} (hik:i<=k) (hk4:k % 4=0) (hkt:k<t) (ht:t=min l.length (k+4)):
  cat (linB l) i (k-i)++(Zdl l k t (cat (Zbh l) k (t-k))++cat (Zbh l) k (t-k))=cat (linB l) i (t-i):=by
 have h1:=Zh1 l (i:=k) (k:=t-k) hk4 (by omega) (by omega);have h2:=Zhp (linB l) i (k-i) (t-k);rw[show k-i+(t-k)=t-i by omega,show i+(k-i)=k by omega,h1]at h2;rw[h2];unfold Zfy;rw[<- ht]
theorem Zml {l:List Pst} {i t:Nat} (hi:i % 16=0) (hit:i<t) (ht:t=min l.length (i+16)):
  cat (lin l) 0 i++(Zdl l i t (cat (linB l) i (t-i))++cat (linB l) i (t-i))=cat (lin l) 0 t:=by
 have h1:=Zh8 l (i:=i) (k:=t-i) hi (by omega) (by omega);have h2:=Zhp (lin l) 0 i (t-i);rw[show i+(t-i)=t by omega,Ya4,h1]at h2;rw[h2];unfold Zge;rw[<- ht]
def Zkn (w:World) (g:List Pst×Int) (e:Ending) (w':World):Prop:=∃ v,e=.returned (.tuple #[v,.int .i64 g.2])/\PostsO w' w.heap.size v g.1/\Below w.heap.size w w'
theorem Zgs:(Tryz.prog.info? 64).map (λi=>(i.zero,i.size,i.bytes))=some (some (.agg #[.int .i64 0,.int .i64 0]),2,16):=by kernel_rfl
theorem Zeq:(Tryz.prog.info? 62).map (λi=>(i.zero,i.size,i.bytes))=some (some (.agg #[.int .i64 0,.slice none 0 0]),2,32):=by kernel_rfl
theorem Zie {w w':World} {g:List Pst×Int} (h:g=([],3)) (hb:Below w.heap.size w w'):Zkn w g (.returned (.tuple #[.slice none 0 0,.int .i64 3])) w':=by
 subst h;exact⟨_,rfl,PostsO.nil _ _,hb⟩
theorem Zj7:(Tryz.prog.info? 2).map (λi=>(i.zero,i.size,i.bytes))=some (some (.int .i64 0),1,8):=by kernel_rfl
theorem Zxx (w:World) (A:Option Addr) (n c:Nat) (s:List (Int×Int)) (hs:PairsIn w A n s) (hn:n<=1099511627776):
  Calls Tryz.prog 142 #[.slice A n c] w λe w'=>∃ v,e=.returned v/\w'.ownsRow w.heap.size 2 1 v n ((poss s).map i64V)/\Below w.heap.size w w':=by
 obtain⟨i0,hi,hz0,hz1,hz2⟩:=info_parts Zj7;have HS:=Zh hs;have HLEN:=Zh hs.len;obtain⟨l,hl⟩:=Ze (poss s);rw[<- hl];have HL:=Zh hl;have hll:l.length=n:=by rw[hl];simp[poss,hs.len]
 have HLL:=Zh hll;clear hs hl hll;go_enter Tryz.func142,Tryz.ntmps142;go_wp2;go_loopw [3,4] (λv i wr=>∃ k:Nat,k<=n/\i=.int .i64 k/\wr.ownsRow w.heap.size 2 1 v k ((l.take k).map i64V)/\Below w.heap.size w wr) (λ_ i _=>n-(intOf i).toNat);case atStart=>exact⟨0,by omega,rfl,⟨rfl,.inl ⟨rfl,rfl⟩⟩,Ybm _ _⟩
 case round=>
  obtain⟨k,hk,rfl,hO,hB⟩:=hrel;have HO:=Zh hO;have HB:=Zh hB;clear hO hB;obtain⟨Av,cv,hv⟩:=Zac HO.out;subst hv;rcases Yab k n with hlt|hge
  ·have hlt':(k:Int)<(n:Int):=by omega
   have p0:(0:Int)<=(k:Int):=by omega
   have hw5:IntKind.i64.wrap ((k:Int)+1)=(k:Int)+1:=Ybo _ (by omega);obtain⟨pa,x,rfl,hx,a0,a1,-,-⟩:=(HS.out.below HB.out).at k hlt;obtain⟨x1,x2⟩:=x;simp only at a0 a1;have a0':∀ q,(wr.drewN q).cell? (pa.add (k*2))=some (.int .i64 x1):=λ_=>a0;have a1':∀ q,(wr.drewN q).cell? ⟨(pa.add (k*2)).block,(pa.add (k*2)).off+1,none⟩=some (.int .i64 x2):=λ_=>a1;have htk:l.take (k+1)=l.take k++[x1]:=by
    rw[Ya5,HL.out];simp[poss,hx]
   have HTK:=Zh htk;clear hx htk;go_wp2_with (at_builtin;refine Zae _ rfl (.tmp 11) (.tmp 17) 196 rfl w.heap.size 2 i0 (.int .i64 0) 8 Tryz.underlying196 hi hz0 hz1 hz2 rfl _ k _ rfl (Yb6 HO.out _) _ 1 1 _ rfl (Zbe wr 2 x1) (Zco [x1]) (by unfold maxLen;omega) (by omega) (by have:=HB.out.size;simp;omega) ?_;intro v3 w3 hown hgrow _;have HO3:=Zh hown;have HB3:=Zh ((HB.out.alloc HB.out.size _).grown hgrow (by have:=HB.out.size;simp;omega) (λg hg=>(HO.out.lt g hg).1));clear hown hgrow);go_roundw;case rel=>
    refine⟨k+1,by omega,by go_num,?_,HB3.out⟩;rw[HTK.out,Ybe];exact HO3.out
   case measure=>simp[intOf];omega
  ·obtain rfl:k=n:=by omega
   have hlz:¬ ((k:Int)<(k:Int)):=by omega
   have hall:l.take k=l:=Yav (by rw[HLL.out];exact Yar _);rw[hall]at HO;go_wp2;go_ret;exact⟨_,rfl,HO.out,HB.out⟩
theorem Qcb (w:World) (A:Option Addr) (n c:Nat) (s:List (Int×Int)) (hs:PairsIn w A n s) (hn:n<=1099511627776):
  Calls Tryz.prog 143 #[.slice A n c] w λe w'=>∃ v,e=.returned v/\w'.ownsRow w.heap.size 2 1 v n ((atss s).map i64V)/\Below w.heap.size w w':=by
 obtain⟨i0,hi,hz0,hz1,hz2⟩:=info_parts Zj7;have HS:=Zh hs;have HLEN:=Zh hs.len;obtain⟨l,hl⟩:=Ze (atss s);rw[<- hl];have HL:=Zh hl;have hll:l.length=n:=by rw[hl];simp[atss,hs.len]
 have HLL:=Zh hll;clear hs hl hll;go_enter Tryz.func143,Tryz.ntmps143;go_wp2;go_loopw [3,4] (λv i wr=>∃ k:Nat,k<=n/\i=.int .i64 k/\wr.ownsRow w.heap.size 2 1 v k ((l.take k).map i64V)/\Below w.heap.size w wr) (λ_ i _=>n-(intOf i).toNat);case atStart=>exact⟨0,by omega,rfl,⟨rfl,.inl ⟨rfl,rfl⟩⟩,Ybm _ _⟩
 case round=>
  obtain⟨k,hk,rfl,hO,hB⟩:=hrel;have HO:=Zh hO;have HB:=Zh hB;clear hO hB;obtain⟨Av,cv,hv⟩:=Zac HO.out;subst hv;rcases Yab k n with hlt|hge
  ·have hlt':(k:Int)<(n:Int):=by omega
   have p0:(0:Int)<=(k:Int):=by omega
   have hw5:IntKind.i64.wrap ((k:Int)+1)=(k:Int)+1:=Ybo _ (by omega);obtain⟨pa,x,rfl,hx,a0,a1,-,-⟩:=(HS.out.below HB.out).at k hlt;obtain⟨x1,x2⟩:=x;simp only at a0 a1;have a0':∀ q,(wr.drewN q).cell? (pa.add (k*2))=some (.int .i64 x1):=λ_=>a0;have a1':∀ q,(wr.drewN q).cell? ⟨(pa.add (k*2)).block,(pa.add (k*2)).off+1,none⟩=some (.int .i64 x2):=λ_=>a1;have htk:l.take (k+1)=l.take k++[x2]:=by
    rw[Ya5,HL.out];simp[atss,hx]
   have HTK:=Zh htk;clear hx htk;go_wp2_with (at_builtin;refine Zae _ rfl (.tmp 11) (.tmp 17) 196 rfl w.heap.size 2 i0 (.int .i64 0) 8 Tryz.underlying196 hi hz0 hz1 hz2 rfl _ k _ rfl (Yb6 HO.out _) _ 1 1 _ rfl (Zbe wr 2 x2) (Zco [x2]) (by unfold maxLen;omega) (by omega) (by have:=HB.out.size;simp;omega) ?_;intro v3 w3 hown hgrow _;have HO3:=Zh hown;have HB3:=Zh ((HB.out.alloc HB.out.size _).grown hgrow (by have:=HB.out.size;simp;omega) (λg hg=>(HO.out.lt g hg).1));clear hown hgrow);go_roundw;case rel=>
    refine⟨k+1,by omega,by go_num,?_,HB3.out⟩;rw[HTK.out,Ybe];exact HO3.out
   case measure=>simp[intOf];omega
  ·obtain rfl:k=n:=by omega
   have hlz:¬ ((k:Int)<(k:Int)):=by omega
   have hall:l.take k=l:=Yav (by rw[HLL.out];exact Yar _);rw[hall]at HO;go_wp2;go_ret;exact⟨_,rfl,HO.out,HB.out⟩
theorem Zjg (w:World) (A:Option Addr) (n c:Nat) (l:List Pst) (h:PostsSee w A n l) (i:Nat) (hi:i<=n):
  Calls Tryz.prog 140 #[.slice A n c,.int .i64 i] w λe w'=>e=.returned (.int .i64 (Zaq l i))/\w'=w:=by
 have hn63:n<=9223372036854775807:=h.fit;by_cases h0:i=0
 ·subst h0
  clear h;go_enter Tryz.func140,Tryz.ntmps140;go_wp2;go_ret;exact⟨rfl,rfl⟩
 ·have d0:((i:Int)==0)=false:=by simpa using h0
  obtain⟨k,hk⟩:∃ k,i=k+1:=⟨i-1,by omega⟩
  have hw:IntKind.i64.wrap ((i:Int)-1)=(k:Int):=by rw[show(i:Int)-1=(k:Int) by omega];exact Ybo _ (by omega)
  have p0:(0:Int)<=(k:Int):=by omega
  have p1:(k:Int)<(n:Int):=by omega
  obtain⟨ad,x,B,cB,rfl,hx,-,a0,-,-,-⟩:=h.at k (by omega);have hl:Zaq l i=x.1:=by unfold Zaq;rw[Yaf h0,hk,Ybk,Zef hx]
  rw[hl];clear h hk hl hx;go_enter Tryz.func140,Tryz.ntmps140;go_wp2;go_ret;exact⟨rfl,rfl⟩
def Zop (b:List UInt8) (n:Nat):Nat->Nat
 | 0=>n
 | k+1=>Zju b (Zop b n k)
theorem Qav {b:List UInt8} {n:Nat} (h:n<=b.length):Zju b n<=b.length:=by
 unfold Zju;split
 ·rename_i h1
  have:=(Zby (l:=b.drop n) (v:=(getL (b.drop n)).1) (k:=(getL (b.drop n)).2.1) (by rw[<- h1])).2.2.1
  rw[Yas]at this;omega
 ·exact h
theorem Zyl {b:List UInt8} {n:Nat} (h:n<=b.length) (k:Nat):Zop b n k<=b.length:=by
 induction k with
 | zero=>exact h
 | succ k ih=>exact Qav ih
theorem Zl1 (w:World) (A:Option Addr) (n c:Nat) (b:Nm) (h:BytesIn w A n b) (hc:n<=c) (p:Nat) (hp:p<=n):
  Calls Tryz.prog 110 #[.slice A n c,.int .i64 p] w λe w'=>e=.returned (.int .i64 (Zja b p:Nat))/\w'=w:=by
 have hn63:n<=9223372036854775807:=h.1;have hbl:b.length=n:=by have:=h.2.1.len;simpa using this
 have HB:=Zh h;have HBL:=Zh hbl;clear h hbl;go_enter Tryz.func110,Tryz.ntmps110;go_wp2;go_loopw [1,5] (λv i wr=>∃ k:Nat,k<=2/\i=.int .i64 k/\v=.int .i64 (Zop b p k:Nat)/\wr=w) (λ_ i _=>2-(intOf i).toNat);case atStart=>exact⟨0,by omega,rfl,rfl,rfl⟩
 case round=>
  obtain⟨k,hk,rfl,rfl,rfl⟩:=hrel;rcases Yab k 2 with hlt|hge
  ·have hlt':(k:Int)<2:=by omega
   have d1:decide ((k:Int)<2)=true:=Yb0 hlt';have hw5:IntKind.i64.wrap ((k:Int)+1)=(k:Int)+1:=Ybo _ (by omega);have hle:=Zyl (b:=b) (n:=p) (by rw[HBL.out];exact hp) k;obtain⟨m,hm⟩:=Ze (Zop b p k);have hnx:Zop b p (k+1)=Zju b m:=by rw[hm];rfl
   rw[<- hm]at hle ⊢;rw[HBL.out]at hle;have HNX:=Zh hnx;clear hm hnx;have hsl:=λw=>Zbf w A n c m hle;have hin:=HB.out.sub hc m n hle (Yar _);rw[Yav (by rw[HBL.out];exact Yar _)]at hin;have HC:=Zh (Ze8 wr (Zak A m c) (n-m) (c-m) (b.drop m) hin);unfold gotV at HC;have hkl:(getL (b.drop m)).2.2=0->(getL (b.drop m)).2.1<=n-m:=λh1=>by
    have:=(Zby (l:=b.drop m) (v:=(getL (b.drop m)).1) (k:=(getL (b.drop m)).2.1) (by rw[<- h1])).2.2.1
    rw[Yas,HBL.out]at this;exact this
   obtain⟨G,hG⟩:=Ze (getL (b.drop m));rw[<- hG]at HC hkl;have hp1:Zju b m=if G.2.2=0 then m+G.2.1 else m:=by rw[hG];rfl
   have HP1:=Zh hp1;obtain⟨G1,G2,G3⟩:=G;simp only at HC hkl;clear hin hG hp1;go_wp2_with fail;refine HC.out.mono ?_;rintro e w2 ⟨rfl,hw2⟩;obtain rfl:=hw2;by_cases hz:G3=0
   ·have d2:(G3==0)=true:=by simpa using hz
    have hz2:=hkl hz;have hw6:IntKind.i64.wrap ((m:Int)+(G2:Int))=((m+G2:Nat):Int):=by rw[Ybo _ (by omega)];push_cast;rfl
    clear hkl;go_wp2;go_roundw;case rel=>exact⟨k+1,by omega,by go_num,by rw[HNX.out,HP1.out];(try simp only);rw[Yag hz];go_num,by first|rfl|trivial⟩
    case measure=>simp[intOf];omega
   ·have d2:(G3==0)=false:=by simpa using hz
    clear hkl;go_wp2;go_roundw;case rel=>exact⟨k+1,by omega,by go_num,by rw[HNX.out,HP1.out];(try simp only);rw[Yaf hz],by first|rfl|trivial⟩
    case measure=>simp[intOf];omega
  ·obtain rfl:k=2:=by omega
   go_wp2;go_ret;exact⟨rfl,rfl⟩
theorem Zgd (w:World) (A:Option Addr) (n c:Nat) (l:List Int) (hl:IntsIn w A n l) (hn:n<=1099511627776):
  Calls Tryz.prog 141 #[.slice A n c] w (Zxz w l):=by
 obtain⟨i0,hi,hz0,hz1,hz2⟩:=info_parts Za9;have HL:=Zh hl;have HLN:=Zh hl.len;have HLX:=Zh (λx hx=>(hl.2.2.1 x hx).2);clear hl;go_enter Tryz.func141,Tryz.ntmps141;go_wp2_with fail;refine(Zcc w n (by omega)).mono ?_;rintro e w1 ⟨v1,rfl,hO,hB⟩;have HO:=Zh hO;have HB:=Zh hB;clear hO hB;go_wp2;go_loopw [4,5] (λv i wr=>∃ k:Nat,k<=n/\i=.int .i64 k/\Za4 (-1) (l.take k)=true/\Below w.heap.size w wr/\wr.ownsRow w.heap.size 5 1 v (Zem l k).length ((Zem l k).map byteV)) (λ_ i _=>n-(intOf i).toNat);case atStart=>exact⟨0,by omega,rfl,rfl,HB.out,by have:=HO.out;rw[<- HLN.out]at this;simpa[Zem,gaps,Zbl]using this⟩
 case round=>
  clear HO HB;obtain⟨k,hk,rfl,hr,hB,hO⟩:=hrel;have HR:=Zh hr;have HO:=Zh hO;have HB:=Zh hB;clear hr hO hB;rcases Yab k n with hlt|hge
  ·have hlt':(k:Int)<(n:Int):=by omega
   obtain⟨Av,cv,hv⟩:=Zac HO.out;subst hv;obtain⟨ad,x,rfl,hx,hcx,hx1,hx2⟩:=(HL.out.below HB.out).at k hlt;have HX:=Zh hx;clear hx;have hpos:(0:Int)<=(k:Int):=by omega
   have hul:=Zny (by rw[HLN.out];exact hk) HR.out HLX.out (by rw[HLN.out];omega);have hlast:=Ziz _ _ HR.out;by_cases hneg:x<0
   ·have hbad:Za4 (-1) l=false:=by
     cases h:Za4 (-1) l with
     | false=>rfl
     | true=>
      have h1:=Zgb (l.take (k+1)) (l.drop (k+1)) (-1) (by rw[Yau];exact h);rw[Zcj HX.out,Zds]at h1;simp only[Yal,decide_eq_true_eq]at h1;omega
    have HBAD:=Zh hbad;clear hbad hlast hul;go_wp2_with fail;go_quiet (fail);go_wp2;go_ret2;exact⟨_,_,rfl,Zaf HB.out _,.inr ⟨HBAD.out,rfl,rfl⟩⟩
   have hneg':¬ x<0:=hneg;by_cases hk0:k=0
   ·have hk0z:¬ (0:Int)<(k:Int):=by omega
    have hk0n:¬ 0<k:=by omega
    have d1:decide (x<0)=false:=by simpa using hneg
    have d2:decide (0<k)=false:=by simpa using hk0n
    obtain⟨g,hg⟩:∃ g:Nat,x=g:=⟨x.toNat,by omega⟩
    have hG:(x-(l.take k).getLastD (-1)-1).toNat=g:=by rw[hk0,hg];simp
    have hLT:decide ((l.take k).getLastD (-1)<x)=true:=by rw[hk0];simp;omega
    have hgm:g<9223372036854775808:=by omega
    have hwr:IntKind.u64.wrap x=(g:Int):=by rw[hg,Yby];omega
    clear hg;have HG:=Zh hG;have HLT:=Zh hLT;clear hG hLT hk0 hlast hneg hneg';go_wp2_with fail;go_quiet (fail);go_wp2_with fail;refine(Zcc _ g (by omega)).mono ?_;rintro e w2 ⟨v2,rfl,hO2,hB2⟩;obtain⟨A2,c2,hv2⟩:=Zac hO2;subst hv2;have HB2:=Zh (Zaa (Zaf HB.out _) hB2 HB.out.size);have HS2:=Zh (Zbj hO2);have HO2:=Zh (Zab HO.out λj hj=>hB2.block j (HO.out.lt j hj).2);have hgl:=Zao g (by omega);clear hO2 hB2;go_wp2_with (at_builtin;refine Zae _ rfl (.tmp 57) (.tmp 59) 24 rfl w.heap.size 5 i0 (.int .u8 0) 1 Tryz.underlying24 hi hz0 hz1 hz2 rfl _ _ _ rfl HO2.out A2 _ c2 _ rfl HS2.out (Zbm _) (by unfold maxLen;omega) (by omega) HB2.out.size ?_;intro v3 w3 hown hgrow _);have HO3:=Zh hown;have HB3:=Zh (HB2.out.grown hgrow HB2.out.size (λj hj=>(HO2.out.lt j hj).1));clear hown hgrow;have hup:Zem l (k+1)=Zem l k++putL g:=by
     unfold Zem;rw[Zcj HX.out,Zkz,Zfz,HG.out,Yao]
    have HUP:=Zh hup;clear hup hul hgl;go_roundw;case rel=>
     refine⟨k+1,by omega,by go_num,?_,HB3.out,?_⟩
     ·rw[Zcj HX.out,Zds,HR.out,HLT.out]
      rfl
     ·rw[HUP.out,Yaq,Ybe]
      exact HO3.out
    case measure=>simp[intOf];omega
   ·have hk0z:(0:Int)<(k:Int):=by omega
    have hk0n:0<k:=by omega
    have d1:decide (x<0)=false:=by simpa using hneg
    have d2:decide (0<k)=true:=by simpa using hk0n
    obtain⟨J,hJ⟩:=Ze (k-1);have hJz:(k:Int)-1=(J:Int):=by omega
    have hJn:(J:Int)<(n:Int):=by omega
    obtain⟨ad',y,had,hy,hcy,hy1,hy2⟩:=(HL.out.below HB.out).at J (by omega);cases had
    have hla:(l.take k).getLastD (-1)=y:=by
     rw[show k=J+1 by omega];exact Zyc hy _
    have hy0:0<=y:=by
     have h1:=HR.out;rw[show k=J+1 by omega,Zcj hy,Zds]at h1;simp only[Yal,decide_eq_true_eq]at h1;have h2:=Ziz _ _ h1.1;omega
    clear hJ hy hlast;by_cases hle:x<=y
    ·have hbad:Za4 (-1) l=false:=by
      cases h:Za4 (-1) l with
      | false=>rfl
      | true=>
       have h1:=Zgb (l.take (k+1)) (l.drop (k+1)) (-1) (by rw[Yau];exact h);rw[Zcj HX.out,Zds,hla]at h1;simp only[Yal,decide_eq_true_eq]at h1;omega
     have HBAD:=Zh hbad;have d3:decide (x<=y)=true:=by simpa using hle
     clear hbad hul hla;go_wp2_with fail;go_quiet (fail);go_wp2;go_ret2;exact⟨_,_,rfl,Zaf HB.out _,.inr ⟨HBAD.out,rfl,rfl⟩⟩
    ·have d3:decide (x<=y)=false:=by simpa using hle
     have hs1:IntKind.i64.wrap (x-y)=x-y:=Ybo _ (by omega);obtain⟨g,hg⟩:∃ g:Nat,x-y-1=(g:Int):=⟨(x-y-1).toNat,by omega⟩
     have hwr:IntKind.u64.wrap (x-y-1)=(g:Int):=by rw[hg,Yby];omega
     have hs2:IntKind.i64.wrap (x-y-1)=x-y-1:=Ybo _ (by omega);have hgm:g<9223372036854775808:=by omega
     have hG:(x-(l.take k).getLastD (-1)-1).toNat=g:=by rw[hla];omega
     have hLT:decide ((l.take k).getLastD (-1)<x)=true:=by rw[hla];simp;omega
     have HG:=Zh hG;have HLT:=Zh hLT;clear hG hLT hla hg hle;go_wp2_with fail;go_quiet (fail);go_wp2_with fail;go_quiet (fail);go_wp2_with fail;refine(Zcc _ g (by omega)).mono ?_;rintro e w2 ⟨v2,rfl,hO2,hB2⟩;obtain⟨A2,c2,hv2⟩:=Zac hO2;subst hv2;have HB2:=Zh (Zaa (Zaf HB.out _) hB2 HB.out.size);have HS2:=Zh (Zbj hO2);have HO2:=Zh (Zab HO.out λj hj=>hB2.block j (HO.out.lt j hj).2);have hgl:=Zao g (by omega);clear hO2 hB2;go_wp2_with (at_builtin;refine Zae _ rfl (.tmp 57) (.tmp 59) 24 rfl w.heap.size 5 i0 (.int .u8 0) 1 Tryz.underlying24 hi hz0 hz1 hz2 rfl _ _ _ rfl HO2.out A2 _ c2 _ rfl HS2.out (Zbm _) (by unfold maxLen;omega) (by omega) HB2.out.size ?_;intro v3 w3 hown hgrow _);have HO3:=Zh hown;have HB3:=Zh (HB2.out.grown hgrow HB2.out.size (λj hj=>(HO2.out.lt j hj).1));clear hown hgrow;have hup:Zem l (k+1)=Zem l k++putL g:=by
      unfold Zem;rw[Zcj HX.out,Zkz,Zfz,HG.out,Yao]
     have HUP:=Zh hup;clear hup hul hgl;go_roundw;case rel=>
      refine⟨k+1,by omega,by go_num,?_,HB3.out,?_⟩
      ·rw[Zcj HX.out,Zds,HR.out,HLT.out]
       rfl
      ·rw[HUP.out,Yaq,Ybe]
       exact HO3.out
     case measure=>simp[intOf];omega
  ·obtain rfl:k=n:=by omega
   have hlz:¬ ((k:Int)<(k:Int)):=by omega
   have htk:l.take k=l:=Yav (by rw[HLN.out];exact Yar _);go_wp2;go_ret2;refine⟨_,_,rfl,HB.out,.inl ⟨?_,rfl,?_⟩⟩
   ·rw[<- htk];exact HR.out
   ·have:=HO.out
    unfold Zem at this;rw[htk]at this;exact this
theorem Zjq (w:World) (A B:Option Addr) (n c m cb:Nat) (l:List Pst) (b:Nm) (h:PostsSee w A n l) (hb:BytesIn w B m b) (hm:m<=1099511627776) (f t:Nat) (hf:f<=n) (ht0:0<t) (ht:t<=n) (hv:Zaq l f<(pAt l (t-1)).1) (hv1:-1<=Zaq l f) (hv2:(pAt l (t-1)).1<=4294967296):
  Calls Tryz.prog 97 #[.slice A n c,.int .i64 f,.int .i64 t,.slice B m cb] w λe w'=>∃ v,e=.returned v/\w'.ownsRow w.heap.size 5 1 v (Zdl l f t b++b).length ((Zdl l f t b++b).map byteV)/\Below w.heap.size w w':=by
 obtain⟨i0,hi,hz0,hz1,hz2⟩:=info_parts Za9;have hbl:b.length=m:=by have:=hb.2.1.len;simpa using this
 have hn63:n<=9223372036854775807:=h.fit;obtain⟨k,hk⟩:∃ k,t=k+1:=⟨t-1,by omega⟩
 have hw1:IntKind.i64.wrap ((t:Int)-1)=(k:Int):=by rw[show(t:Int)-1=(k:Int) by omega];exact Ybo _ (by omega)
 have k0:(0:Int)<=(k:Int):=by omega
 have k1:(k:Int)<(n:Int):=by omega
 obtain⟨ad,x,B0,c0,rfl,hx,-,a0,-,-,-⟩:=h.at k (by omega);have hpx:pAt l (t-1)=x:=by rw[hk,Ybk];exact Zef hx
 obtain⟨p,hp⟩:=Ze (Zaq l f);obtain⟨d,hd⟩:∃ d:Nat,d=(x.1-p-1).toNat:=⟨_,rfl⟩
 have hH:Zdl l f t b=putL d++putL m:=by unfold Zdl;rw[hpx,<- hp,<- hd,hbl]
 rw[hpx,<- hp]at hv;rw[hpx]at hv2;rw[<- hp]at hv1;have hw2:IntKind.i64.wrap (x.1-p)=x.1-p:=Ybo _ (by omega);have hw3:IntKind.i64.wrap (x.1-p-1)=(d:Int):=by rw[Ybo _ (by omega)];omega
 have hw4:IntKind.u64.wrap (d:Int)=(d:Int):=IntWalk.u64_in _ (by omega);have hw5:IntKind.u64.wrap (m:Int)=(m:Int):=IntWalk.u64_in _ (by omega);have hlast:=Zjg w (some ad) n c l h f hf;rw[<- hp]at hlast;have hd64:d<18446744073709551616:=by omega
 have HP:=Zh h;have HB:=Zh hb;have HBL:=Zh hbl;have HH:=Zh hH;have HLP:=Zh (λq=>by have h1:=Zjg (w.drewN q) (some ad) n c l (h.drewN q) f hf;rw[<- hp]at h1;exact h1:∀ q:Nat,Calls Tryz.prog 140 #[.slice (some ad) n c,.int .i64 f] (w.drewN q) λe w'=>e=.returned (.int .i64 p)/\w'=w.drewN q);have HD:=Zh hd;obtain⟨x1,x2⟩:=x;simp only at a0 hw2 hw3 hv hv2;rw[hH];clear h hb hbl hk hx hpx hp hd hlast hH hv hv1 hv2;go_enter Tryz.func97,Tryz.ntmps97;go_wp2_with fail;refine Yb8 (S:=λw'=>w'.cell? (ad.add (k*2))=some (.int .i64 x1)) (by kernel_rfl) ?_ (λhHeld=>?_)
 ·exact a0
 refine tk 0 ?_;try simp only[Act.put,lz3,lz4,lz5]
 refine tk 1 ?_;try simp only[Act.put,lz3,lz4,lz5]
 refine tk 2 ?_;try simp only[Act.put,lz3,lz4,lz5]
 refine tk 3 ?_;try simp only[Act.put,lz3,lz4,lz5]
 refine tk 4 ?_;try simp only[Act.put,lz3,lz4,lz5]
 refine tk 5 ?_ (hy:=by((intro w hSw;have hSw1:=hSw;go_simp);first|done|with_reducible rfl));try simp only[Act.put,lz3,lz4,lz5]
 refine tk 6 ?_;try simp only[Act.put,lz3,lz4,lz5]
 refine tk 7 ?_;try simp only[Act.put,lz3,lz4,lz5]
 refine rd1 8 ?_;intro K hK;go_simp;refine(HLP.out 1).mono ?_;rintro e w8 ⟨rfl,rfl⟩;go_wp2_with fail;refine hK.out _ _ a0 (λhHeld2=>?_);clear hK K;try simp only[Act.put,lz3,lz4,lz5]
 refine tk 9 ?_;try simp only[Act.put,lz3,lz4,lz5]
 refine tk 10 ?_;try simp only[Act.put,lz3,lz4,lz5]
 refine tk 11 ?_;try simp only[Act.put,lz3,lz4,lz5]
 refine rd1 12 ?_;intro K hK;go_simp;refine(Zcc _ d hd64).mono ?_;rintro e w9 ⟨v9,rfl,ho9,hb9⟩;have HB9:Hid (Below w.heap.size w w9):=Zh (Zaa (Zaf (Ybm w.heap.size w) 1) hb9 (Yar _));have HO9:Hid (w9.ownsRow w.heap.size 5 1 v9 (putL d).length ((putL d).map byteV)):=Zh ho9;clear ho9 hb9;go_wp2_with fail;refine hK.out _ _ (Zag HB9.out a0) (λhHeld3=>?_);clear hK K;try simp only[Act.put,lz3,lz4,lz5]
 refine tk 13 ?_;try simp only[Act.put,lz3,lz4,lz5]
 refine Yb9 (by kernel_rfl) ?_ _;clear hHeld hHeld2 hHeld3;obtain⟨X9,c9,hv9,hc9⟩:=Za0 HO9.out;subst hv9;have hdl:=Zao d (by omega);have hml:=Zao m (by omega);go_wp2_with fail;refine(Zcc _ m (by omega)).mono ?_;rintro e w10 ⟨v10,rfl,ho10,hb10⟩;obtain⟨X10,c10,hv10,hc10⟩:=Za0 ho10;subst hv10;have HB10:=Zh (Zaa HB9.out hb10 HB9.out.size);have HO10:=Zh (Zab HO9.out (λg hg=>hb10.block g (HO9.out.lt g hg).2));have HP10:=Zh (Zbj ho10);clear ho10 hb10;go_wp2_with (at_builtin;refine Zae _ rfl (.tmp 23) (.tmp 27) 24 rfl w.heap.size 5 i0 (.int .u8 0) 1 Tryz.underlying24 hi hz0 hz1 hz2 rfl _ (putL d).length _ rfl HO10.out _ (putL m).length _ _ rfl HP10.out (Zbm (putL m)) (by unfold maxLen;omega) (by omega) HB10.out.size ?_;intro v11 w11 hown hgrow _;obtain⟨X11,c11,hv11⟩:=Zac hown;subst hv11;rw[<- Ybe]at hown;have HO11:=Zh hown;have HB11:=Zh (HB10.out.grown hgrow HB10.out.size (λg hg=>(HO10.out.lt g hg).1));clear hown hgrow;go_wp2_with (at_builtin;refine Zae _ rfl (.tmp 29) (.tmp 30) 24 rfl w.heap.size 5 i0 (.int .u8 0) 1 Tryz.underlying24 hi hz0 hz1 hz2 rfl _ _ _ rfl HO11.out B m cb _ rfl (HB.out.below HB11.out).2.1 (Zbm b) (by unfold maxLen;omega) (by omega) HB11.out.size ?_;intro v12 w12 hown hgrow _;obtain⟨X12,c12,hv12⟩:=Zac hown;subst hv12;rw[<- Ybe]at hown;have HO12:=Zh hown;have HB12:=Zh (HB11.out.grown hgrow HB11.out.size (λg hg=>(HO11.out.lt g hg).1));clear hown hgrow));go_ret;refine⟨_,rfl,?_,HB12.out⟩;have e1:(putL d++putL m++b).length=(putL d).length+(putL m).length+m:=by rw[Yaq,Yaq,HBL.out]
 rw[e1];exact HO12.out
theorem Zr0 (w:World) (A:Option Addr) (n c:Nat) (l:List Pst) (h:PostsSee w A n l) (hV:ValidP l) (f t:Nat) (hft:f<=t) (ht:t<=n):
  Calls Tryz.prog 98 #[.slice A n c,.int .i64 f,.int .i64 t] w λe w'=>∃ v,e=.returned v/\w'.ownsRow w.heap.size 5 1 v (cat (Zbh l) f (t-f)).length ((cat (Zbh l) f (t-f)).map byteV)/\Below w.heap.size w w':=by
 obtain⟨i0,hi,hz0,hz1,hz2⟩:=info_parts Za9;have HP:=Zh h;have HV:=Zh hV;have HLEN:=Zh h.len;have hn4:n<=4096:=by have:=hV.few;rw[h.len]at this;exact this
 clear h hV;go_enter Tryz.func98,Tryz.ntmps98;go_wp2;go_loopw [7,8] (λv i wr=>∃ k:Nat,f+k<=t/\i=.int .i64 (f+k:Nat)/\wr.ownsRow w.heap.size 5 1 v (cat (Zbh l) f k).length ((cat (Zbh l) f k).map byteV)/\Below w.heap.size w wr) (λ_ i _=>t-(intOf i).toNat);case atStart=>exact⟨0,by omega,rfl,⟨rfl,.inl ⟨rfl,rfl⟩⟩,Ybm _ _⟩
 case round=>
  obtain⟨k,hk,rfl,hO,hB⟩:=hrel;have HO:=Zh hO;have HB:=Zh hB;clear hO hB;obtain⟨j,hj⟩:=Ze (f+k);rw[<- hj]at hk ⊢;obtain⟨Av,cv,hv⟩:=Zac HO.out;subst hv;rcases Yab j t with hlt|hge
  ·have hlt':(j:Int)<(t:Int):=by omega
   have p0:(0:Int)<=(j:Int):=by omega
   have p1:(j:Int)<(n:Int):=by omega
   have hw5:IntKind.i64.wrap ((j:Int)+1)=(j:Int)+1:=Ybo _ (by omega);obtain⟨pa,x,SA,da,rfl,hx,-,a0,a1,-,sa⟩:=(HP.out.below HB.out).at j (by omega);have hpx:=Zef hx;have hjl:j<l.length:=by have:=HLEN.out;omega
   have hmem:=Zay hjl;have hun:Zbh l j=putL ((pAt l j).1-Zaq l j-1).toNat++(putR (poss (pAt l j).2)++putR (atss (pAt l j).2)):=rfl;have v1:=HV.out.up j hjl;have v2:=(HV.out.docs _ hmem).2;have v3:=(HV.out.last (i:=j) (by omega)).1;have v4:=HV.out.pos _ hmem;have v5:=HV.out.at_ _ hmem;have v6:=Zhv (HV.out.fit _ hmem);have v7:=HV.out.spots _ hmem;have v8:=Zd1 HV.out (i:=f) (k:=k) (by omega);rw[hpx]at v1 v2 v4 v5 v6 v7 hun;obtain⟨x1,x2⟩:=x;simp only at a0 a1 sa v1 v2 v4 v5 v6 v7 hun;obtain⟨p,hp⟩:=Ze (Zaq l j);rw[<- hp]at v1 v3 hun;obtain⟨d,hd⟩:∃ d:Nat,d=(x1-p-1).toNat:=⟨_,rfl⟩
   rw[<- hd]at hun;have hcat:cat (Zbh l) f (k+1)=cat (Zbh l) f k++Zbh l j:=by rw[cat,hj]
   obtain⟨M,hM⟩:=Ze (cat (Zbh l) f k);rw[<- hM]at HO v8 hcat ⊢;have hMl:M.length<=368640000:=by have:90000*k<=90000*4096:=Yca _ (by omega);omega
   have hw2:IntKind.i64.wrap (x1-p)=x1-p:=Ybo _ (by omega);have hw3:IntKind.i64.wrap (x1-p-1)=(d:Int):=by rw[Ybo _ (by omega)];omega
   have hw4:IntKind.u64.wrap (d:Int)=(d:Int):=IntWalk.u64_in _ (by omega);have hd64:d<18446744073709551616:=by omega
   have hlp:∀ q:Nat,Calls Tryz.prog 140 #[.slice (some pa) n c,.int .i64 j] (wr.drewN q) λe w'=>e=.returned (.int .i64 p)/\w'=wr.drewN q:=λq=>by
    have h1:=Zjg (wr.drewN q) (some pa) n c l ((HP.out.below HB.out).drewN q) j (by omega);rw[<- hp]at h1;exact h1
   have HLP:=Zh hlp;have HX:=Zh hx;have HSA:=Zh sa;have HUN:=Zh hun;have HCAT:=Zh hcat;have HJ:=Zh hj;have HV4:=Zh v4;have HV5:=Zh v5;have HV6:=Zh v6;have hpl:=Zep (by rw[(Zcx x2).1];exact v7) v4 v6.1;have hal:=Zep (by rw[(Zcx x2).2];exact v7) v5 v6.2;have hdl:=Zao d (by omega);clear hx hpx hmem hun hcat hM hj hlp sa v1 v2 v3 v4 v5 v6 v8 hp hd;go_wp2_with fail;refine Yb8 (S:=λw'=>w'.cell? (pa.add (j*2))=some (.int .i64 x1)) (by kernel_rfl) ?_ (λhHeld=>?_)
   ·exact a0
   refine tk 0 ?_;(try simp only[Act.put,lz3,lz4,lz5]);refine tk 1 ?_;(try simp only[Act.put,lz3,lz4,lz5]);refine tk 2 ?_;(try simp only[Act.put,lz3,lz4,lz5]);refine tk 3 ?_;(try simp only[Act.put,lz3,lz4,lz5]);refine tk 4 ?_;(try simp only[Act.put,lz3,lz4,lz5]);refine tk 5 ?_;(try simp only[Act.put,lz3,lz4,lz5]);refine tk 6 ?_;(try simp only[Act.put,lz3,lz4,lz5]);refine tk 7 ?_;(try simp only[Act.put,lz3,lz4,lz5]);refine rd1 8 ?_;intro K hK;go_simp;refine(HLP.out 1).mono ?_;rintro e w8 ⟨rfl,rfl⟩;go_wp2_with fail;refine hK.out _ _ a0 (λhHeld2=>?_);clear hK K;(try simp only[Act.put,lz3,lz4,lz5]);refine tk 9 ?_;(try simp only[Act.put,lz3,lz4,lz5]);refine tk 10 ?_;(try simp only[Act.put,lz3,lz4,lz5]);refine tk 11 ?_;(try simp only[Act.put,lz3,lz4,lz5]);refine rd1 12 ?_;intro K hK;go_simp;refine(Zcc _ d hd64).mono ?_;rintro e w9 ⟨v9,rfl,ho9,hb9⟩;have hb9':=Zaa (Zaf (Ybm wr.heap.size wr) 1) hb9 (Yar _);have HR9:=Zh hb9';have HB9:=Zh (Zaa HB.out hb9' HB.out.size);have HO9:=Zh (Zab HO.out (λg hg=>hb9'.block g (HO.out.lt g hg).2));obtain⟨X9,c9,hv9⟩:=Zac ho9;subst hv9;have HP9:=Zh (Zbj ho9);clear ho9 hb9 hb9';go_wp2_with fail;refine hK.out _ _ (Zag HR9.out a0) (λhHeld3=>?_);clear hK K;(try simp only[Act.put,lz3,lz4,lz5]);refine rd1 13 ?_;intro K hK;refine Za1 _ rfl (.tmp 19) (.tmp 31) 24 rfl w.heap.size 5 i0 (.int .u8 0) 1 Tryz.underlying24 hi hz0 hz1 hz2 rfl _ M.length _ rfl HO9.out X9 (putL d).length c9 _ rfl HP9.out (Zbm (putL d)) (by unfold maxLen;omega) (by omega) HB9.out.size ?_;intro v10 w10 hown hgrow _;rw[<- Ybe]at hown;have HB10:=Zh (HB9.out.grown hgrow HB9.out.size (λg hg=>(HO9.out.lt g hg).1));have HO10:=Zh hown;clear hown hgrow;obtain⟨X10,c10,hv10⟩:=Zac HO10.out;subst hv10;obtain⟨pb,x',SB,db,hpb,hx',-,b0,b1,-,sb⟩:=(HP.out.below HB10.out).at j (by omega);obtain rfl:pa=pb:=Ya9 hpb;obtain rfl:(x1,x2)=x':=by have h1:=HX.out;rw[hx']at h1;exact(Ya9 h1).symm
   simp only at b0 b1 sb;refine hK.out _ _ b0 (λhHeld4=>?_);clear hK K hpb hx' a0 a1;(try simp only[Act.put,lz3,lz4,lz5]);refine tk 14 ?_;(try simp only[Act.put,lz3,lz4,lz5]);refine Yb9 (by kernel_rfl) ?_ _;clear hHeld hHeld2 hHeld3 hHeld4 b0;have SSB:=Zh sb;clear sb;go_wp2_with fail;refine(Zxx _ SB x2.length db x2 SSB.out (by omega)).mono ?_;rintro e w11 ⟨v11,rfl,ho11,hb11⟩;obtain⟨X11,c11,hv11⟩:=Zac ho11;subst hv11;have HB11:=Zh (Zaa HB10.out hb11 HB10.out.size);have HO11:=Zh (Zab HO10.out (λg hg=>hb11.block g (HO10.out.lt g hg).2));have hi11:IntsIn w11 X11 x2.length (poss x2):=IntsIn.own ho11 (by unfold maxLen;omega) (λy hy=>by have h1:=Znz HV4.out y hy;have h2:=HV6.out.1 y hy;omega);have HI11:=Zh hi11;clear ho11 hb11 hi11;go_wp2_with fail;refine(Zgd _ X11 x2.length c11 (poss x2) HI11.out (by omega)).mono ?_;rintro e w12 ⟨v12,z12,rfl,hb12,hcase⟩;have HB12:=Zh (Zaa HB11.out hb12 HB11.out.size);have HO12:=Zh (Zab HO11.out (λg hg=>hb12.block g (HO11.out.lt g hg).2));rcases hcase with⟨-,rfl,hq12⟩|⟨hno,-,-⟩;case inr=>rw[HV4.out]at hno;cases hno
   obtain⟨X12,c12,hv12⟩:=Zac hq12;subst hv12;have HQ12:=Zh (BytesIn.own hq12 (by unfold maxLen;omega));clear hb12 hq12;obtain⟨pc,x',SC,dc,hpc,hx',-,-,b2,-,sc⟩:=(HP.out.below HB12.out).at j (by omega);obtain rfl:pa=pc:=Ya9 hpc;obtain rfl:(x1,x2)=x':=by have h1:=HX.out;rw[hx']at h1;exact(Ya9 h1).symm
   simp only at b2 sc;have SSC:=Zh sc;clear hpc hx' sc;go_wp2_with fail;refine(Qcb _ SC x2.length dc x2 SSC.out (by omega)).mono ?_;rintro e w13 ⟨v13,rfl,ho13,hb13⟩;obtain⟨X13,c13,hv13⟩:=Zac ho13;subst hv13;have HB13:=Zh (Zaa HB12.out hb13 HB12.out.size);have HO13:=Zh (Zab HO12.out (λg hg=>hb13.block g (HO12.out.lt g hg).2));have HQ13:=Zh (HQ12.out.below hb13);have hi13:IntsIn w13 X13 x2.length (atss x2):=IntsIn.own ho13 (by unfold maxLen;omega) (λy hy=>by have h1:=Znz HV5.out y hy;have h2:=HV6.out.2 y hy;omega);have HI13:=Zh hi13;clear ho13 hb13 hi13;go_wp2_with fail;refine(Zgd _ X13 x2.length c13 (atss x2) HI13.out (by omega)).mono ?_;rintro e w14 ⟨v14,z14,rfl,hb14,hcase⟩;have HB14:=Zh (Zaa HB13.out hb14 HB13.out.size);have HO14:=Zh (Zab HO13.out (λg hg=>hb14.block g (HO13.out.lt g hg).2));have HQ14:=Zh (HQ13.out.below hb14);rcases hcase with⟨-,rfl,hq14⟩|⟨hno,-,-⟩;case inr=>rw[HV5.out]at hno;cases hno
   obtain⟨X14,c14,hv14⟩:=Zac hq14;subst hv14;have HA14:=Zh (BytesIn.own hq14 (by unfold maxLen;omega));have hne:∀ ad,X14=some ad->(Value.slice X10 (M.length+(putL d).length) c10).ownBlock≠some ad.block:=λad e e2=>by
    have h1:=(hq14.lt ad.block (by rw[e];rfl)).1;have h2:=(HO13.out.lt ad.block e2).2;omega
   have HNE:=Zh hne;clear hne;clear hb14 hq14;go_wp2_with (at_builtin;refine Zae _ rfl (.tmp 53) (.tmp 54) 24 rfl w.heap.size 5 i0 (.int .u8 0) 1 Tryz.underlying24 hi hz0 hz1 hz2 rfl _ _ _ rfl HO14.out X12 (putR (poss x2)).length c12 _ rfl HQ14.out.2.1 (Zbm _) (by unfold maxLen;omega) (by omega) HB14.out.size ?_;intro v15 w15 hown hgrow _;obtain⟨X15,c15,hv15⟩:=Zac hown;subst hv15;rw[<- Ybe]at hown;have HO15:=Zh hown;have HB15:=Zh (HB14.out.grown hgrow HB14.out.size (λg hg=>(HO14.out.lt g hg).1));have HA15:=Zh (BytesIn.grownOther HA14.out hgrow HNE.out);clear hown hgrow;go_wp2_with (at_builtin;refine Zae _ rfl (.tmp 55) (.tmp 56) 24 rfl w.heap.size 5 i0 (.int .u8 0) 1 Tryz.underlying24 hi hz0 hz1 hz2 rfl _ _ _ rfl HO15.out X14 (putR (atss x2)).length c14 _ rfl HA15.out.2.1 (Zbm _) (by unfold maxLen;omega) (by omega) HB15.out.size ?_;intro v16 w16 hown hgrow _;obtain⟨X16,c16,hv16⟩:=Zac hown;subst hv16;rw[<- Ybe]at hown;have HO16:=Zh hown;have HB16:=Zh (HB15.out.grown hgrow HB15.out.size (λg hg=>(HO15.out.lt g hg).1));clear hown hgrow));go_roundw;case rel=>
    refine⟨k+1,by have:=HJ.out;omega,by rw[show((f+(k+1):Nat):Int)=(j:Int)+1 by have:=HJ.out;omega],?_,HB16.out⟩;have e:M++(putL d++(putR (poss x2)++putR (atss x2)))=M++putL d++putR (poss x2)++putR (atss x2):=by simp[Yao]
    rw[HCAT.out,HUN.out,e];simp only[Yaq];exact HO16.out
   case measure=>simp[intOf];omega
  ·obtain rfl:j=t:=by omega
   have hlz:¬ ((j:Int)<(j:Int)):=by omega
   have hkk:j-f=k:=by omega
   go_wp2;go_ret;refine⟨_,rfl,?_,HB.out⟩;first|(rw[hkk];exact HO.out)|exact HO.out
theorem Zoo (w:World) (A:Option Addr) (n c:Nat) (l:List Pst) (h:PostsSee w A n l) (hn:n<=9223372036854775807):
  Calls Tryz.prog 47 #[.slice A n c] w (Zm1 w l):=by
 obtain⟨i0,hi,hz0,hz1,hz2⟩:=info_parts Za9;have HP:=Zh h;have HLEN:=Zh h.len;have HCK:=Zh (Zqw w A n c l h hn);have hok:=Zex (Zv8 h);unfold Zm1 putE;obtain⟨R,hR⟩:=Ze (Zb3 l);rw[<- hR]at HCK hok ⊢;clear h hR;by_cases h0:R=0
 ·have hV:=hok.1 h0
  rw[Yag h0];subst h0;have HV:=Zh hV;have hn4:n<=4096:=by have:=hV.few;rw[HLEN.out]at this;exact this
  have hn64:n<18446744073709551616:=by omega
  have hw4:IntKind.u64.wrap (n:Int)=(n:Int):=IntWalk.u64_in _ (by omega);have hnl:=Zao n (by omega);clear hok hV;go_enter Tryz.func47,Tryz.ntmps47;go_wp2_with fail;refine HCK.out.mono ?_;rintro e w1 ⟨rfl,hb1⟩;have HB1:=Zh hb1;clear hb1;go_wp2_with fail;refine(Zcc _ n hn64).mono ?_;rintro e w2 ⟨v2,rfl,ho2,hb2⟩;have HB2:=Zh (Zaa HB1.out hb2 HB1.out.size);have HO2:=Zh (Zcq ho2 HB1.out.size);clear ho2 hb2;go_wp2;go_loopw [5,6] (λv i wr=>∃ I:Nat,I % 16=0/\I<=n+15/\i=.int .i64 I/\wr.ownsRow w.heap.size 5 1 v (putL n++cat (lin l) 0 (min n I)).length ((putL n++cat (lin l) 0 (min n I)).map byteV)/\Below w.heap.size w wr) (λ_ i _=>n+16-(intOf i).toNat);case atStart=>exact⟨0,rfl,by omega,rfl,by simpa[cat]using HO2.out,HB2.out⟩
  case round=>
   obtain⟨I,hI16,hIn,rfl,hO,hB⟩:=hrel;obtain⟨wo,hwo⟩:=Ze wr;subst hwo;have HO:=Zh hO;have HB:=Zh hB;clear hO hB;rcases Yab I n with hlt|hge
   ·have hlt':(I:Int)<(n:Int):=by omega
    obtain⟨E,hE⟩:=Ze (min n (I+16));have hw5:IntKind.i64.wrap ((I:Int)+16)=(I:Int)+16:=Ybo _ (by omega);have hmin:∀ w ty,(Builtin.min_ #[3,3] ty #[.int .i64 (n:Int),.int .i64 ((I:Int)+16)]).run Tryz.prog w=.ok (.int .i64 (E:Int)) w:=λw ty=>by
     rw[Lib.run_min_ints,show min (n:Int) ((I:Int)+16)=(E:Int) by omega]
    have hEl:E=min l.length (I+16):=by rw[HLEN.out];exact hE
    have hEI:I<E/\E<=n/\E<=I+16:=by omega
    have hEmin:min n (I+16)=E:=hE.symm;rw[Nat.min_eq_right (Nat.le_of_lt hlt)]at HO;have HGN:=Zh (Zml (l:=l) hI16 hEI.1 hEl);have HEL:=Zh hEl;have HLL:=Zh (Zid HV.out (i:=0) (k:=E) (by rw[HLEN.out];omega));have HEM:=Zh hEmin;clear hE hEl hEmin;have hIl:=hEI.1;have hEn:=hEI.2.1;have hEI16:=hEI.2.2;clear hEI;go_wp2;go_loopw [8,9] (λv k wi=>∃ K:Nat,K % 4=0/\I<=K/\K<=I+16/\(K<E\/E<=K)/\k=.int .i64 K/\wi.ownsRow wo.heap.size 5 1 v (cat (linB l) I (min E K-I)).length ((cat (linB l) I (min E K-I)).map byteV)/\Below wo.heap.size wo wi) (λ_ k _=>n+16-(intOf k).toNat);case atStart=>exact⟨I,by omega,by omega,by omega,by omega,rfl,by rw[show min E I-I=0 by omega];exact⟨rfl,.inl ⟨rfl,rfl⟩⟩,Ybm _ _⟩
    case round=>
     obtain⟨K,hK4,hIK,hK16,hcs,rfl,hO2,hB2⟩:=hrel;have HO2:=Zh hO2;have HB2':=Zh hB2;have HBW:=Zh (Zaa HB.out hB2 HB.out.size);clear hO2 hB2;obtain⟨Av,cv,hv⟩:=Zac HO2.out;subst hv;rcases Yab K E with hlt2|hge2
     ·have hlt2':(K:Int)<(E:Int):=by omega
      have hmk:min E K=K:=Nat.min_eq_right (Nat.le_of_lt hlt2);obtain⟨T,hT⟩:=Ze (min E (K+4));have hw6:IntKind.i64.wrap ((K:Int)+4)=(K:Int)+4:=Ybo _ (by omega);have hmin2:∀ w ty,(Builtin.min_ #[3,3] ty #[.int .i64 (E:Int),.int .i64 ((K:Int)+4)]).run Tryz.prog w=.ok (.int .i64 (T:Int)) w:=λw ty=>by
       rw[Lib.run_min_ints,show min (E:Int) ((K:Int)+4)=(T:Int) by omega]
      have hTl:T=min l.length (K+4):=by have:=HEL.out;omega
      have hKT:K<T:=by omega
      have hTE:T<=E:=by omega
      have HTm:Hid (min E (K+4)=T):=Zh hT.symm;rw[hmk]at HO2;have HBN:=Zh (Zms (l:=l) hIK hK4 hKT hTl);have hml:=Zd2 HV.out (i:=I) (k:=K-I) (by rw[HLEN.out];omega);obtain⟨M,hM⟩:=Ze (cat (linB l) I (K-I));have hMl:M.length<=1440320:=by
       rw[hM];have:90020*(K-I)<=90020*16:=Yca _ (by omega);omega
      have hul:=Zd1 HV.out (i:=K) (k:=T-K) (by rw[HLEN.out];omega);rw[hmk];rw[<- hM]at HO2 HBN ⊢;have HM:=Zh hM;have HBL:=Zh (Zr0 wr A n c l (HP.out.below HBW.out) HV.out K T (by omega) (by omega));obtain⟨U,hU⟩:=Ze (cat (Zbh l) K (T-K));have hUl:U.length<=360000:=by
       rw[hU];have:90000*(T-K)<=90000*4:=Yca _ (by omega);omega
      rw[<- hU]at HBL HBN;have hhl:=Zp1 HV.out (f:=K) (t:=T) (b:=U) (by rw[HLEN.out];omega) (by rw[HLEN.out];omega) (by omega);have HLT:=Zh (HV.out.last_lt hKT (by rw[HLEN.out];omega));have HL1:=Zh (HV.out.last (i:=K) (by rw[HLEN.out];omega)).1;have HDL:=Zh (HV.out.doc_le (t:=T) (by omega) (by rw[HLEN.out];omega));clear hT hTl hmk hml hM hul hU;go_wp2_with fail;refine HBL.out.mono ?_;rintro e w3 ⟨v3,rfl,ho3,hb3⟩;obtain⟨X3,c3,hv3⟩:=Zac ho3;subst hv3;have HB3:=Zh (Zaa HBW.out hb3 HBW.out.size);have HV3:=Zh (Zaa HB2'.out hb3 HB2'.out.size);have HO3:=Zh (Zab HO2.out (λg hg=>hb3.block g (HO2.out.lt g hg).2));have HHD:=Zh (Zjq w3 A X3 n c U.length c3 l U (HP.out.below HB3.out) (BytesIn.own ho3 (by unfold maxLen;omega)) (by omega) K T (by omega) (by omega) (by omega) HLT.out HL1.out HDL.out);clear ho3 hb3;go_wp2_with fail;refine HHD.out.mono ?_;rintro e w4 ⟨v4,rfl,ho4,hb4⟩;obtain⟨X4,c4,hv4⟩:=Zac ho4;subst hv4;have HB4:=Zh (Zaa HV3.out hb4 HV3.out.size);have HO4:=Zh (Zab HO3.out (λg hg=>hb4.block g (HO3.out.lt g hg).2));have HS4:=Zh (Zbj ho4);obtain⟨Y,hY⟩:=Ze (Zdl l K T U++U);rw[<- hY]at HS4 HBN;have hYl:Y.length<=360020:=by rw[hY,Yaq];omega
      rw[<- hY];clear ho4 hb4 hY;go_wp2_with (at_builtin;refine Zae _ rfl (.tmp 41) (.tmp 49) 24 rfl wo.heap.size 5 i0 (.int .u8 0) 1 Tryz.underlying24 hi hz0 hz1 hz2 rfl _ M.length _ rfl HO4.out X4 Y.length c4 _ rfl HS4.out (Zbm Y) (by unfold maxLen;omega) (by omega) HB4.out.size ?_;intro v5 w5 hown hgrow _;rw[<- Ybe]at hown;have HB5:=Zh (HB4.out.grown hgrow HB4.out.size (λg hg=>(HO4.out.lt g hg).1));have HO5:=Zh hown;clear hown hgrow);go_roundw;case rel=>
       refine⟨K+4,by omega,by omega,by omega,by omega,by go_num,?_,HB5.out⟩;rw[HTm.out,<- HBN.out,Yaq];exact HO5.out
      case measure=>simp[intOf];omega
     ·have hlz:¬ ((K:Int)<(E:Int)):=by omega
      have hmk:min E K=E:=Yb7 hge2;rw[hmk]at HO2 ⊢;have hml:=Zd2 HV.out (i:=I) (k:=E-I) (by rw[HLEN.out];omega);obtain⟨Q,hQ⟩:=Ze (cat (linB l) I (E-I));have hQl:Q.length<=1440320:=by
       rw[hQ];have:90020*(E-I)<=90020*16:=Yca _ (by omega);omega
      rw[<- hQ]at HO2 HGN ⊢;have HO2b:=Zh (BytesIn.own HO2.out (by unfold maxLen;omega));have hhl:=Zp1 HV.out (f:=I) (t:=E) (b:=Q) (by rw[HLEN.out];omega) (by rw[HLEN.out];omega) (by omega);have HHD:=Zh (Zjq wr A Av n c Q.length cv l Q (HP.out.below HBW.out) HO2b.out (by omega) I E (by omega) (by omega) (by omega) (HV.out.last_lt hIl (by rw[HLEN.out];omega)) (HV.out.last (i:=I) (by rw[HLEN.out];omega)).1 (HV.out.doc_le (t:=E) (by omega) (by rw[HLEN.out];omega)));obtain⟨N,hN⟩:=Ze (putL n++cat (lin l) 0 I);have hNl:N.length<=368803860:=by
       have h1:=Zid HV.out (i:=0) (k:=I) (by rw[HLEN.out];omega);have h2:90040*I<=90040*4096:=Yca _ (by omega);rw[hN,Yaq];omega
      have hHN:putL n++cat (lin l) 0 E=N++(Zdl l I E Q++Q):=by rw[hN,Yao,<- HGN.out]
      rw[<- hN]at HO;have HO3:=Zh (Zab HO.out (λg hg=>HB2'.out.block g (HO.out.lt g hg).2));obtain⟨Ao,co,hvo⟩:=Zac HO.out;subst hvo;have HHN:=Zh hHN;clear hml hQ hmk hN hHN;go_wp2_with fail;refine HHD.out.mono ?_;rintro e w4 ⟨v4,rfl,ho4,hb4⟩;obtain⟨X4,c4,hv4⟩:=Zac ho4;subst hv4;have HB4:=Zh (Zaa HBW.out hb4 HBW.out.size);have HO4:=Zh (Zab HO3.out (λg hg=>hb4.block g (HO3.out.lt g hg).2));have HS4:=Zh (Zbj ho4);obtain⟨Y,hY⟩:=Ze (Zdl l I E Q++Q);rw[<- hY]at HS4 HHN;have hYl:Y.length<=1440340:=by rw[hY,Yaq];omega
      rw[<- hY];clear ho4 hb4 hY;go_wp2_with (at_builtin;refine Zae _ rfl (.tmp 51) (.tmp 56) 24 rfl w.heap.size 5 i0 (.int .u8 0) 1 Tryz.underlying24 hi hz0 hz1 hz2 rfl _ N.length _ rfl HO4.out X4 Y.length c4 _ rfl HS4.out (Zbm Y) (by unfold maxLen;omega) (by omega) HB4.out.size ?_;intro v5 w5 hown hgrow _;rw[<- Ybe]at hown;have HB5:=Zh (HB4.out.grown hgrow HB4.out.size (λg hg=>(HO4.out.lt g hg).1));have HO5:=Zh hown;clear hown hgrow);refine⟨⟨I+16,by omega,by omega,by go_num,?_,HB5.out⟩,by simp[intOf];omega⟩;rw[HEM.out,HHN.out,Yaq];exact HO5.out
   ·have hm:min n I=n:=Yb7 hge
    have hlz:¬ ((I:Int)<(n:Int)):=by omega
    rw[hm]at HO;clear hm;go_wp2;go_ret2;refine⟨_,rfl,?_,HB.out⟩;unfold putP;rw[HLEN.out];exact HO.out
 ·rw[Yaf h0]
  have d0:(R==0)=false:=by simpa using h0
  have d1:(R != 0)=true:=by simpa using h0
  clear hok;go_enter Tryz.func47,Tryz.ntmps47;go_wp2_with fail;refine HCK.out.mono ?_;rintro e w1 ⟨rfl,hb1⟩;go_wp2;go_ret2;exact⟨_,rfl,⟨rfl,.inl ⟨rfl,rfl⟩⟩,hb1⟩
theorem Zfx (w:World) (A:Option Addr) (n c:Nat) (l:Nm) (hl:BytesIn w A n l) (hc:n<=c) (hn:n<=1099511627776) (most:Int) (hm1:-9223372036854775808<=most) (hm2:most<=9223372036854775807):
  Calls Tryz.prog 111 #[.slice A n c,.int .i64 most] w (Zi7 w (getR l most)):=by
 obtain⟨i0,hi,hz0,hz1,hz2⟩:=info_parts Zp3;have HL:=Zh hl;have hln:l.length=n:=by have:=hl.2.1.len;simpa using this
 have HLN:=Zh hln;clear hl hln;go_enter Tryz.func111,Tryz.ntmps111;go_wp2_with fail;refine(Ze8 w A n c l HL.out).mono ?_;rintro e w1 ⟨rfl,hw⟩;rw[hw];clear hw;unfold gotV;obtain⟨G,hG⟩:=Ze (getL l);rw[<- hG];obtain⟨many,at0',e0⟩:=G;by_cases he:e0=0
 ·subst he
  have hg:=Zby hG.symm;obtain⟨g1,g2,g3,g4,g5⟩:=hg;by_cases hm:most<0
  ·have hres:getR l most=([],0,2):=by
    unfold getR;rw[<- hG];simp only;rw[Yaf (by simp),Yag (.inl hm)]
   have HRES:=Zh hres;have HG:=Zh hG;clear hG hres g4;have d1:decide (most<0)=true:=by simpa using hm
   go_wp2;go_ret3;exact gerr HRES.out (Ybm _ _)
  have d1:decide (most<0)=false:=by simpa using hm
  have hwm:IntKind.u64.wrap most=most:=by rw[Yby];omega
  by_cases hmm:most<(many:Int)
  ·have hres:getR l most=([],0,2):=by
    unfold getR;rw[<- hG];simp only;rw[Yaf (by simp),Yag (.inr hmm)]
   have HRES:=Zh hres;have HG:=Zh hG;clear hG hres g4;have d2:decide (most<(many:Int))=true:=by simpa using hmm
   go_wp2;go_ret3;exact gerr HRES.out (Ybm _ _)
  have d2:decide (most<(many:Int))=false:=by simpa using hmm
  have hres:getR l most=Zdf many (-1) at0' (l.drop at0') []:=by
   unfold getR;rw[<- hG];simp only;rw[Yaf (by simp),Yaf (by omega)]
  have HRES:=Zh hres;have HG:=Zh hG;clear hG hres g4;have g3n:at0'<=n:=by rw[<- HLN.out];exact g3
  go_wp2;go_loopw [8,10,11,12] (λa v s i wr=>∃ (k at_ last:Nat) (acc:List Int),k<=many/\a=.int .i64 at_/\s=.int .u64 last/\i=.int .u64 k/\at_<=n/\last<=9223372036854775807/\acc.length=k/\k<at_/\(k=0->last=0)/\
   Zdf (many-k) (if k=0 then -1 else last) at_ (l.drop at_) acc=getR l most/\Below w.heap.size w wr/\wr.ownsRow w.heap.size 2 1 v acc.length (acc.map i64V)) (λ_ _ _ i _=>many-(intOf i).toNat)
  case atStart=>exact⟨0,at0',0,[],by omega,rfl,rfl,rfl,g3n,by omega,rfl,g1,λ_=>rfl,by rw[HRES.out];rfl,Ybm _ _,⟨rfl,.inl ⟨rfl,rfl⟩⟩⟩
  case round=>
   obtain⟨k,at_,last,acc,hk,rfl,rfl,rfl,hat,hlast,hacc,hkat,hk0,hgr,hB,hO⟩:=hrel;have HGR:=Zh hgr;have HB:=Zh hB;have HO:=Zh hO;have HK0:=Zh hk0;have HACC:=Zh hacc;clear hgr hB hO hk0 hacc;obtain⟨Av,cv,hv⟩:=Zac HO.out;subst hv;rcases Yab k many with hlt|hge
   ·have hlt':(k:Int)<(many:Int):=by omega
    have s1:∀ w,(Instr.slice 24 (.slice A n c) (some (.int .i64 at_)) none none).run Tryz.prog w=.ok (.slice (Zak A at_ c) (n-at_) (c-at_)) w:=λw=>Zbf w A n c at_ hat;have hsub:=(HL.out.below HB.out).sub hc at_ n hat (Yar _);rw[show(l.take n).drop at_=l.drop at_ by rw[Yav (by rw[HLN.out];exact Yar _)]]at hsub;have HSUB:=Zh hsub;clear hsub;obtain⟨v,j,e,hg⟩:∃ v j e,getL (l.drop at_)=(v,j,e):=⟨_,_,_,rfl⟩
    obtain⟨m,hm⟩:∃ m,many-k=m+1:=⟨many-k-1,by omega⟩
    have hstep:=HGR.out;rw[hm]at hstep;simp only[Zdf,hg]at hstep;have HSTEP:=Zh hstep;have HGG:=Zh hg;have HM:=Zh hm;clear hstep hg hm;go_wp2_with fail;refine(Ze8 wr (Zak A at_ c) (n-at_) (c-at_) (l.drop at_) HSUB.out).mono ?_;rintro e2 w2 ⟨rfl,hw⟩;rw[hw,HGG.out];clear hw;unfold gotV;by_cases he:e=0
    ·subst he
     have hgi:=Zby HGG.out;obtain⟨q1,q2,q3,q4,q5⟩:=hgi;rw[Yas,HLN.out]at q3;clear q4;have hstep:=HSTEP.out;rw[Yaf (by simp)]at hstep;have hj:IntKind.i64.wrap ((at_:Int)+(j:Int))=((at_+j:Nat):Int):=by rw[Ybo _ (by omega)];simp
     obtain⟨at2,hat2⟩:=Ze (at_+j);rw[<- hat2]at hj;obtain⟨T,hT⟩:∃ T:Nat,T=9223372036854775807-last:=⟨_,rfl⟩
     have hTz:IntKind.u64.wrap (9223372036854775807-(last:Int))=(T:Int):=by rw[Yby];omega
     by_cases hkz:k=0
     ·have hk1:¬ (0:Int)<(k:Int):=by omega
      have hk1n:¬ 0<k:=by omega
      have hl0:=HK0.out hkz;rw[Yag hkz]at hstep;by_cases hov:T<v
      ·have hovz:(T:Int)<(v:Int):=by omega
       rw[Yag (by omega)]at hstep;have HS:=Zh hstep;clear hstep hT hat2 hkz hl0;go_wp2;go_ret3;exact gerr HS.out.symm HB.out
      ·have hovz:¬ (T:Int)<(v:Int):=by omega
       rw[Yaf (by omega)]at hstep;obtain⟨z,hz⟩:∃ z:Nat,z=last+v:=⟨_,rfl⟩
       have hzz:IntKind.u64.wrap ((last:Int)+(v:Int))=(z:Int):=by rw[Yby];omega
       have hzi:IntKind.i64.wrap (z:Int)=(z:Int):=Ybo _ (by omega);have hzm:z<=9223372036854775807:=by omega
       have hat2n:at2<=n:=by omega
       have hka2:k+1<at2:=by omega
       rw[show(-1:Int)+(v:Int)+1=(z:Int) by omega,Ya1,<- hat2]at hstep;have HS:=Zh hstep;have hal:acc.length<=1099511627776:=by have:=HACC.out;omega
       clear hstep hT hat2 hkz hz hl0;go_wp2_with (at_builtin;refine Zae _ rfl (.tmp 68) (.tmp 71) 196 rfl w.heap.size 2 i0 (.int .i64 0) 8 Tryz.underlying196 hi hz0 hz1 hz2 rfl _ acc.length _ rfl (Yb6 HO.out _) _ 1 1 _ rfl (Zbe wr 2 z) (Zco [(z:Int)]) (by unfold maxLen;omega) (by omega) (by have:=HB.out.size;simp;omega) ?_;intro v3 w3 hown hgrow _;have HO3:=Zh hown;have HB3:=Zh ((HB.out.alloc HB.out.size _).grown hgrow (by have:=HB.out.size;simp;omega) (λg hg=>(HO.out.lt g hg).1));clear hown hgrow);go_roundw;case rel=>
        refine⟨k+1,at2,z,acc++[(z:Int)],by omega,rfl,rfl,by go_num,by omega,by omega,by rw[Yaq,HACC.out];rfl,by omega,λe=>by omega,?_,HB3.out,?_⟩
        ·rw[Yaf (by omega),show many-(k+1)=m by have:=HM.out;omega]
         exact HS.out
        ·rw[Yaq,Ybe]
         exact HO3.out
       case measure=>simp[intOf];omega
     ·have hk1:(0:Int)<(k:Int):=by omega
      have hk1n:0<k:=by omega
      rw[Yaf hkz]at hstep;by_cases hov:T<=v
      ·have hovz:(T:Int)<=(v:Int):=by omega
       rw[Yag (by omega)]at hstep;have HS:=Zh hstep;clear hstep hT hat2 hkz;go_wp2;go_ret3;exact gerr HS.out.symm HB.out
      ·have hovz:¬ (T:Int)<=(v:Int):=by omega
       rw[Yaf (by omega)]at hstep;obtain⟨z,hz⟩:∃ z:Nat,z=last+v+1:=⟨_,rfl⟩
       obtain⟨v1,hv1⟩:∃ u:Nat,u=v+1:=⟨_,rfl⟩
       have hv1z:IntKind.u64.wrap ((v:Int)+1)=(v1:Int):=by rw[Yby];omega
       have hzz:IntKind.u64.wrap ((last:Int)+(v1:Int))=(z:Int):=by rw[Yby];omega
       have hzi:IntKind.i64.wrap (z:Int)=(z:Int):=Ybo _ (by omega);have hzm:z<=9223372036854775807:=by omega
       have hat2n:at2<=n:=by omega
       have hka2:k+1<at2:=by omega
       rw[show(last:Int)+(v:Int)+1=(z:Int) by omega,Ya1,<- hat2]at hstep;have HS:=Zh hstep;have hal:acc.length<=1099511627776:=by have:=HACC.out;omega
       clear hstep hT hat2 hkz hz hv1;go_wp2_with (at_builtin;refine Zae _ rfl (.tmp 68) (.tmp 71) 196 rfl w.heap.size 2 i0 (.int .i64 0) 8 Tryz.underlying196 hi hz0 hz1 hz2 rfl _ acc.length _ rfl (Yb6 HO.out _) _ 1 1 _ rfl (Zbe wr 2 z) (Zco [(z:Int)]) (by unfold maxLen;omega) (by omega) (by have:=HB.out.size;simp;omega) ?_;intro v3 w3 hown hgrow _;have HO3:=Zh hown;have HB3:=Zh ((HB.out.alloc HB.out.size _).grown hgrow (by have:=HB.out.size;simp;omega) (λg hg=>(HO.out.lt g hg).1));clear hown hgrow);go_roundw;case rel=>
        refine⟨k+1,at2,z,acc++[(z:Int)],by omega,rfl,rfl,by go_num,by omega,by omega,by rw[Yaq,HACC.out];rfl,by omega,λe=>by omega,?_,HB3.out,?_⟩
        ·rw[Yaf (by omega),show many-(k+1)=m by have:=HM.out;omega]
         exact HS.out
        ·rw[Yaq,Ybe]
         exact HO3.out
       case measure=>simp[intOf];omega
    ·have hstep:=HSTEP.out
     rw[Yag he]at hstep;have HS:=Zh hstep;clear hstep;go_wp2;go_ret3;exact gerr HS.out.symm HB.out
   ·obtain rfl:k=many:=by omega
    have hlz:¬ ((k:Int)<(k:Int)):=by omega
    have hfin:getR l most=(acc,at_,0):=by
     have:=HGR.out
     rw[Ybq]at this;exact this.symm
    have HF:=Zh hfin;clear hfin;go_wp2;go_ret3;exact gok HF.out HB.out HO.out
 ·have hres:getR l most=([],0,e0):=by
   unfold getR;rw[<- hG];simp only;rw[Yag he]
  have HRES:=Zh hres;have HG:=Zh hG;clear hG hres;go_wp2;go_ret3;exact gerr HRES.out (Ybm _ _)
theorem Qdw {b:List UInt8} {n0 k M n':Nat} {l:List Pst} {doc:Int} (h:rdUp b n0 k=some (l,n',doc)) (h1:Zfw b (Zls b k n')=none) (hk:k<M):rdUp b n0 M=none:=by
 have h2:rdUp b n0 (k+1)=none:=by rw[rdUp,h];simp only;rw[h1]
 have h3:=Zos h2 (M-(k+1))
 rwa [show k+1+(M-(k+1))=M by omega]at h3
theorem Qd3 {b:List UInt8} {n0 k n' n2 d:Nat} {l:List Pst} {s:List (Int×Int)} {doc:Int} (h:rdUp b n0 k=some (l,n',doc)) (h1:Zfw b (Zls b k n')=some (d,s,n2)):rdUp b n0 (k+1)=some (l++[(doc+d+1,s)],n2,doc+d+1):=by
 rw[rdUp,h];simp only;rw[h1]
theorem Zsa {b:List UInt8} {n d k1:Nat} {e1:Int} (h:getL (b.drop n)=(d,k1,e1)) (hb:e1≠0\/4294967296<d):Zfw b n=none:=by
 unfold Zfw;rw[h,Yag hb]
theorem Qbk {b:List UInt8} {n d k1 k2:Nat} {e2:Int} {p:List Int} (h:getL (b.drop n)=(d,k1,0)) (hd:d<=4294967296) (h2:getR (b.drop (n+k1)) 4096=(p,k2,e2)) (hb:e2≠0):Zfw b n=none:=by
 unfold Zfw;rw[h];simp only;rw[Yaf (by omega),h2,Yag hb]
theorem Ztu {b:List UInt8} {n d k1 k2 k3:Nat} {e3:Int} {p a:List Int} (h:getL (b.drop n)=(d,k1,0)) (hd:d<=4294967296) (h2:getR (b.drop (n+k1)) 4096=(p,k2,0)) (h3:getR (b.drop (n+k1+k2)) 4096=(a,k3,e3)) (hb:e3≠0\/a.length≠p.length):Zfw b n=none:=by
 unfold Zfw;rw[h];simp only;rw[Yaf (by omega),h2];simp only;rw[Yaf (by simp),h3];simp only;rw[Yag hb]
theorem Qas {b:List UInt8} {n d k1 k2 k3:Nat} {p a:List Int} (h:getL (b.drop n)=(d,k1,0)) (hd:d<=4294967296) (h2:getR (b.drop (n+k1)) 4096=(p,k2,0)) (h3:getR (b.drop (n+k1+k2)) 4096=(a,k3,0)) (hb:a.length=p.length):Zfw b n=some (d,p.zip a,n+k1+k2+k3):=by
 unfold Zfw;rw[h];simp only;rw[Yaf (by omega),h2];simp only;rw[Yaf (by simp),h3];simp only;rw[Yaf (by simp[hb])]
theorem Zw2 (w:World) (A:Option Addr) (n c:Nat) (b:Nm) (hb:BytesIn w A n b) (hc:n<=c) (hn:n<=1099511627776):
  Calls Tryz.prog 59 #[.slice A n c] w (Zkn w (getP b)):=by
 have hbl:b.length=n:=by have:=hb.2.1.len;simpa using this
 obtain⟨G,hG⟩:=Ze (getP b);rw[<- hG];have HB:=Zh hb;have HBL:=Zh hbl;have HG:=Zh hG;clear hb hbl hG;go_enter Tryz.func59,Tryz.ntmps59;go_wp2_with fail;refine(Ze8 w A n c b HB.out).mono ?_;rintro e w1 ⟨rfl,hw⟩;rw[hw];clear hw;unfold gotV;obtain⟨M,n0,e0,hgl⟩:∃ M n0 e0,getL b=(M,n0,e0):=⟨_,_,_,rfl⟩
 rw[hgl];simp only;have HGL:=Zh hgl;by_cases he:e0=0
 ·subst he
  have hle:=Zis (l:=b) (by rw[hgl]);rw[hgl]at hle;simp only at hle;by_cases hM:4096<M
  ·have d1:decide ((4096:Int)<(M:Int))=true:=Yb0 (by omega)
   have HE:Hid (G=([],3)):=Zh (by rw[HG.out];unfold getP;rw[hgl,Yag (.inr hM)]);clear hgl hM hle;go_wp2;go_ret2;exact Zie HE.out (Ybm _ _)
  ·have d1:decide ((4096:Int)<(M:Int))=false:=Ybt (by omega)
   have hM4:M<=4096:=by omega
   have HE:Hid (G=match rdUp b n0 M with|none=>([],3)|some (l,_,_)=>if Zb3 l=0/\putP l=b then (l,0) else ([],3)):=Zh (by rw[HG.out];unfold getP;rw[hgl,Yaf (by simp;omega)];rfl);have HN0:Hid (n0<=b.length):=Zh hle.1;have hcv:IntKind.i64.wrap (M:Int)=(M:Int):=Ybo _ (by omega);clear hgl hM hle;go_wp2;go_loopw [5,7,8,9] (λnv lv dv iv wr=>∃ (k n':Nat) (doc:Int) (l:List Pst),k<=M/\rdUp b n0 k=some (l,n',doc)/\nv=.int .i64 n'/\dv=.int .i64 doc/\iv=.int .i64 k/\PostsO wr w.heap.size lv l/\Below w.heap.size w wr) (λ_ _ _ i _=>M-(intOf i).toNat);case atStart=>exact⟨0,n0,-1,[],by omega,rfl,rfl,rfl,rfl,PostsO.nil _ _,Ybm _ _⟩
   case round=>
    obtain⟨k,n',doc,l,hk,hup,rfl,rfl,rfl,hO,hB⟩:=hrel;obtain⟨Al,cl,hvl⟩:∃ Al cl,u7=.slice Al l.length cl:=by
     obtain⟨R,_,h1,_⟩:=hO;exact Zac h1
    subst hvl;have HO:=Zh hO;have HW:=Zh hB;have HUP:=Zh hup;have HUK:=Zh (Zr2 HN0.out k l n' doc hup);clear hO hB hup;obtain⟨wo,hwo⟩:=Ze wr;subst hwo;rcases Yab k M with hlt|hge
    ·have hlt':(k:Int)<(M:Int):=by omega
     have hw5:IntKind.i64.wrap ((k:Int)+1)=(k:Int)+1:=Ybo _ (by omega);have hn':n'<=n:=by have:=HUK.out.end_;rw[HBL.out]at this;exact this
     obtain⟨m1,hm1⟩:=Ze (if k % 16=0 then Zja b n' else n');have hm1n:m1<=n:=by
      rw[hm1,<- HBL.out];split
      ·exact Zij (by rw[HBL.out];exact hn')
      ·rw[HBL.out];exact hn'
     obtain⟨m2,hm2⟩:=Ze (if k % 4=0 then Zja b m1 else m1);have hm2n:m2<=n:=by
      rw[hm2,<- HBL.out];split
      ·exact Zij (by rw[HBL.out];exact hm1n)
      ·rw[HBL.out];exact hm1n
     have hsk:Zls b k n'=m2:=by
      rw[hm2,hm1];unfold Zls;split<;>rfl
     have HSK:=Zh hsk;have HM1:=Zh hm1;have HM2:=Zh hm2;clear hsk hm1 hm2;go_upto_if 38 with fail;go_cut [5] (λv wx=>v=.int .i64 m1/\wx=wo);case first=>
      by_cases h16:k % 16=0
      ·have d2:((k:Int) % 16==0)=true:=by simp;omega
       have hm:=HM1.out;rw[Yag h16]at hm;have HMM:=Zh hm;clear hm h16;go_wp2_with fail;refine(Zl1 wo A n c b (HB.out.below HW.out) hc n' hn').mono ?_;rintro e2 w2 ⟨rfl,hw⟩;rw[hw];clear hw;go_wp2;go_meet;case rel=>exact⟨by rw[HMM.out],rfl⟩
      ·have d2:((k:Int) % 16==0)=false:=by simp;omega
       have hm:=HM1.out;rw[Yaf h16]at hm;have HMM:=Zh hm;clear hm h16;go_wp2;go_meet;case rel=>exact⟨by rw[HMM.out],rfl⟩
     case rest=>
      obtain⟨rfl,hwx⟩:=hcut;rw[hwx];clear hwx;go_upto_if 44 with fail;go_cut [5] (λv wx=>v=.int .i64 m2/\wx=wo);case first=>
       by_cases h4:k % 4=0
       ·have d2:((k:Int) % 4==0)=true:=by simp;omega
        have hm:=HM2.out;rw[Yag h4]at hm;have HMM:=Zh hm;clear hm h4;go_wp2_with fail;refine(Zl1 wo A n c b (HB.out.below HW.out) hc m1 hm1n).mono ?_;rintro e2 w2 ⟨rfl,hw⟩;rw[hw];clear hw;go_wp2;go_meet;case rel=>exact⟨by rw[HMM.out],rfl⟩
       ·have d2:((k:Int) % 4==0)=false:=by simp;omega
        have hm:=HM2.out;rw[Yaf h4]at hm;have HMM:=Zh hm;clear hm h4;go_wp2;go_meet;case rel=>exact⟨by rw[HMM.out],rfl⟩
      case rest=>
       obtain⟨rfl,hwx⟩:=hcut;rw[hwx];clear hwx;have HNO:Hid (Zfw b m2=none->G=([],3)):=Zh (λh=>by
        have h1:=Qdw HUP.out (by rw[HSK.out];exact h) hlt;rw[HE.out,h1])
       have HYES:Hid (∀ (d n2:Nat) (s:List (Int×Int)),Zfw b m2=some (d,s,n2)->rdUp b n0 (k+1)=some (l++[(doc+d+1,s)],n2,doc+d+1)):=Zh (λd n2 s h=>Qd3 HUP.out (by rw[HSK.out];exact h));have hdoc1:=HUK.out.doc.1;have hdoc2:=HUK.out.doc.2;clear HM1 HM2 HSK hm1n hn';have hsl2:=λw=>Zbf w A n c m2 hm2n;have hin:=(HB.out.below HW.out).sub hc m2 n hm2n (Yar _);rw[Yav (by rw[HBL.out];exact Yar _)]at hin;have HC:=Zh (Ze8 wo (Zak A m2 c) (n-m2) (c-m2) (b.drop m2) hin);unfold gotV at HC;obtain⟨d,k1,e1,hg1⟩:∃ d k1 e1,getL (b.drop m2)=(d,k1,e1):=⟨_,_,_,rfl⟩
       have hl1:e1=0->k1<=n-m2/\d<2 ^ 64:=λh1=>by
        have h2:=Zis (l:=b.drop m2) (by rw[hg1];exact h1);rw[hg1,Yas,HBL.out]at h2;exact h2
       rw[hg1]at HC;simp only at HC;have HG1:=Zh hg1;clear hg1 hin;go_wp2_with fail;refine HC.out.mono ?_;rintro e2 w2 ⟨rfl,hw2⟩;rw[hw2];clear hw2 hsl2;by_cases hb1:e1=0
       ·subst hb1
        obtain⟨hk1,hd64⟩:=hl1 rfl;clear hl1;by_cases hd:d<=4294967296
        ·have d3:decide ((4294967296:Int)<(d:Int))=false:=Ybt (by omega)
         obtain⟨m3,hm3⟩:=Ze (m2+k1);have hw6:IntKind.i64.wrap ((m2:Int)+(k1:Int))=(m3:Int):=by rw[Ybo _ (by omega)];omega
         have hm3n:m3<=n:=by omega
         have hsl3:=λw=>Zbf w A n c m3 hm3n;have hin:=(HB.out.below HW.out).sub hc m3 n hm3n (Yar _);rw[Yav (by rw[HBL.out];exact Yar _)]at hin;have HC2:=Zh (Zfx wo (Zak A m3 c) (n-m3) (c-m3) (b.drop m3) hin (by omega) (by omega) 4096 (by omega) (by omega));obtain⟨p,k2,e2,hg2⟩:∃ p k2 e2,getR (b.drop m3) 4096=(p,k2,e2):=⟨_,_,_,rfl⟩
         have hl2:e2=0->k2<=n-m3/\(p.length:Int)<=4096:=λh1=>by
          have h2:=Zf4 (l:=b.drop m3) (most:=4096) (by rw[hg2];exact h1);rw[hg2,Yas,HBL.out]at h2;exact⟨h2.1,h2.2.1⟩
         rw[hg2]at HC2;have HG2:=Zh hg2;have HM3:=Zh hm3;clear hg2 hin hm3;go_wp2_with fail;refine HC2.out.mono ?_;rintro e3 w3 ⟨v3,rfl,hb3,ho3⟩;obtain⟨X3,c3,hv3⟩:=Zac ho3;subst hv3;have HB3:=Zh (Zaa HW.out hb3 HW.out.size);have HBo3:=Zh hb3;have HO3:=Zh ho3;clear hb3 ho3 hsl3;by_cases hb2:e2=0
         ·subst hb2
          obtain⟨hk2,hpl⟩:=hl2 rfl;clear hl2;obtain⟨m4,hm4⟩:=Ze (m3+k2);have hw7:IntKind.i64.wrap ((m3:Int)+(k2:Int))=(m4:Int):=by rw[Ybo _ (by omega)];omega
          have hm4n:m4<=n:=by omega
          have hsl4:=λw=>Zbf w A n c m4 hm4n;have hin:=(HB.out.below HB3.out).sub hc m4 n hm4n (Yar _);rw[Yav (by rw[HBL.out];exact Yar _)]at hin;have HC3:=Zh (Zfx w3 (Zak A m4 c) (n-m4) (c-m4) (b.drop m4) hin (by omega) (by omega) 4096 (by omega) (by omega));obtain⟨a,k3,e3,hg3⟩:∃ a k3 e3,getR (b.drop m4) 4096=(a,k3,e3):=⟨_,_,_,rfl⟩
          have hl3:e3=0->k3<=n-m4:=λh1=>by
           have h2:=Zf4 (l:=b.drop m4) (most:=4096) (by rw[hg3];exact h1);rw[hg3,Yas,HBL.out]at h2;exact h2.1
          rw[hg3]at HC3;have HG3:Hid (getR (b.drop (m2+k1+k2)) 4096=(a,k3,e3)):=Zh (by rw[<- HM3.out,<- hm4];exact hg3);have HG2':Hid (getR (b.drop (m2+k1)) 4096=(p,k2,0)):=Zh (by rw[<- HM3.out];exact HG2.out);have HM4:=Zh hm4;clear hg3 hin hm4;go_wp2_with fail;refine HC3.out.mono ?_;rintro e4 w4 ⟨v4,rfl,hb4,ho4⟩;obtain⟨X4,c4,hv4⟩:=Zac ho4;subst hv4;have HB4:=Zh (Zaa HB3.out hb4 HB3.out.size);have HBo4:=Zh (Zaa HBo3.out hb4 HBo3.out.size);have HO4:=Zh ho4;have HO3':=Zh (Zab HO3.out (λg hg=>hb4.block g (HO3.out.lt g hg).2));clear hb4 ho4 hsl4;by_cases hb3:e3=0
          ·subst hb3
           by_cases hap:a.length=p.length
           ·have d5:((a.length:Int) != (p.length:Int))=false:=by simp[hap]
            have hk3:=hl3 rfl;obtain⟨m5,hm5⟩:=Ze (m4+k3);have hw8:IntKind.i64.wrap ((m4:Int)+(k3:Int))=(m5:Int):=by rw[Ybo _ (by omega)];omega
            have hw9:IntKind.i64.wrap (d:Int)=(d:Int):=Ybo _ (by omega);have hw10:IntKind.i64.wrap (doc+(d:Int))=doc+(d:Int):=Ybo _ (by omega);have hw11:IntKind.i64.wrap (doc+(d:Int)+1)=doc+(d:Int)+1:=Ybo _ (by omega);have HONE:=Zh (Qas HG1.out hd HG2'.out HG3.out hap);have HM5:Hid (m2+k1+k2+k3=m5):=Zh (by rw[hm5,HM4.out,HM3.out]);clear hl3 hm5;obtain⟨x,hx⟩:=Ze (doc+(d:Int)+1);obtain⟨s,hs⟩:=Ze (p.zip a);have hsl:s.length=p.length:=by rw[hs,List.length_zip];omega
            have hsz:∀ q y1 y2,p[q]?=some y1->a[q]?=some y2->s[q]?=some (y1,y2):=λq y1 y2 h1 h2=>by rw[hs,List.getElem?_zip_eq_some];exact⟨h1,h2⟩
            rw[HM5.out,<- hs]at HONE;have hp4:p.length<=4096:=by omega
            have HSZ:=Zh hsz;have HX:=Zh hx;have hgp:=Zf4 (l:=b.drop (m2+k1)) (most:=4096) (by rw[HG2'.out]);have hga:=Zf4 (l:=b.drop (m2+k1+k2)) (most:=4096) (by rw[HG3.out]);rw[HG2'.out]at hgp;rw[HG3.out]at hga;have HIP:=Zh (IntsIn.own HO3'.out (by unfold maxLen;omega) (λy hy=>by have h1:=Zd7 hgp.2.2.1 y hy;have h2:=hgp.2.2.2 y hy;omega));have HIA:=Zh (IntsIn.own HO4.out (by unfold maxLen;omega) (λy hy=>by have h1:=Zd7 hga.2.2.1 y hy;have h2:=hga.2.2.2 y hy;omega));clear hs hx hgp hga hsz;go_wp2_with fail;rw[<- HX.out];obtain⟨wi,hwi⟩:=Ze (w4.alloc (.cells #[.int .i64 x,.slice none 0 0] 62));rw[<- hwi];obtain⟨xb,hxb⟩:=Ze w4.heap.size;rw[<- hxb];have HXB:=Zh hxb;have HBX:Hid (Blk wi xb 62 #[.int .i64 x,.slice none 0 0]):=Zh (by rw[hwi,hxb];exact Blk.new _ _ _);have HWX:Hid (Below w4.heap.size w4 wi):=Zh (by rw[hwi];exact(Ybm _ w4).alloc (Yar _) _);obtain⟨i1,hi1,hy0,hy1,hy2⟩:=info_parts Zgs;clear hwi hxb;go_loopw [16] (λj wi=>∃ (q:Nat) (v:Value),q<=p.length/\j=.int .i64 q/\Blk wi xb 62 #[.int .i64 x,v]/\wi.ownsRow (xb+1) 64 2 v q ((s.take q).flatMap Zat)/\Below w4.heap.size w4 wi) (λj _=>p.length-(intOf j).toNat);case atStart=>exact⟨0,_,by omega,rfl,HBX.out,⟨rfl,.inl ⟨rfl,rfl⟩⟩,HWX.out⟩
            case round=>
             obtain⟨q,v,hq,rfl,hB,hR,hW⟩:=hrel;obtain⟨Av,cv,rfl⟩:=Zac hR;have HBI:=Zh hB;have HRI:=Zh hR;have HWI:=Zh hW;clear hB hR hW;rcases Yab q p.length with hlq|hgq
             ·have hlq':(q:Int)<(p.length:Int):=by omega
              have hla':(q:Int)<(a.length:Int):=by omega
              have q0:(0:Int)<=(q:Int):=by omega
              have hw12:IntKind.i64.wrap ((q:Int)+1)=(q:Int)+1:=Ybo _ (by omega);obtain⟨pa,y1,rfl,hp1,-,-,-⟩:=HIP.out.at q hlq;obtain⟨pb,y2,rfl,ha1,-,-,-⟩:=HIA.out.at q (by omega);have hss:∀ u,Below w4.heap.size w4 u->u.cell? (pa.add q)=some (.int .i64 y1)/\u.cell? (pb.add q)=some (.int .i64 y2):=λu hu=>by
               obtain⟨pa',y1',e1,e2,e3,-,-⟩:=(HIP.out.below hu).at q hlq;obtain⟨pb',y2',f1,f2,f3,-,-⟩:=(HIA.out.below hu).at q (by omega);cases e1
               cases f1
               rw[hp1]at e2;rw[ha1]at f2;cases e2
               cases f2
               exact⟨e3,f3⟩
              have HSS:=Zh hss;have HNX:Hid ((s.take (q+1)).flatMap Zat=(s.take q).flatMap Zat++Zat (y1,y2)):=Zh (by rw[Ya5,HSZ.out q y1 y2 hp1 ha1];simp);clear hss hp1 ha1;go_wp2_with fail;refine Yb8 (S:=λw'=>w'.cell? (pa.add q)=some (.int .i64 y1)/\w'.cell? (pb.add q)=some (.int .i64 y2)) (by kernel_rfl) (HSS.out wr HWI.out) (λhHeld=>?_);obtain⟨u0,hu0⟩:=Ze wr.drew;rw[<- hu0];have hb0:Below wr.heap.size wr u0:=by rw[hu0];exact(Ybm _ wr).drew
              have HB0:=Zh (HBI.out.below hb0 HBI.out.lt);have HR0:=Zh (Zab HRI.out (λg hg=>hb0.block g (HRI.out.lt g hg).2));have HW0:=Zh (Zaa HWI.out hb0 HWI.out.size);have hSn0:=HSS.out _ HW0.out;clear hu0 hb0;refine tk 0 ?_;(try simp only[Act.put,lz3,lz4,lz5]);refine tk 2 ?_;(try simp only[Act.put,lz3,lz4,lz5]);refine tk 3 ?_;(try simp only[Act.put,lz3,lz4,lz5]);refine tk 6 ?_;(try simp only[Act.put,lz3,lz4,lz5]);refine tk 7 ?_;(try simp only[Act.put,lz3,lz4,lz5]);refine tk 4 ?_;(try simp only[Act.put,lz3,lz4,lz5]);refine tk 8 ?_;(try simp only[Act.put,lz3,lz4,lz5]);refine tk 5 ?_;(try simp only[Act.put,lz3,lz4,lz5]);refine tk 9 ?_;(try simp only[Act.put,lz3,lz4,lz5]);refine tk 10 ?_;(try simp only[Act.put,lz3,lz4,lz5]);refine rd2 1 11 ?st11 ?st12;case st11=>
               intro K hK;have yq1:=HB0.out.cell 1;simp only[lz0,lz1,lz2]at yq1;go_simp;clear yq1;refine hK.out _ _ (HSS.out _ HW0.out) (λht13=>?_);clear hK K;(try simp only[Act.put,lz3,lz4,lz5]);refine rd1 11 ?st14;case st14=>
                intro K hK;go_simp;obtain⟨uq2,huq7⟩:=Ze (u0.alloc (.cells #[.int .i64 y1,.int .i64 y2] 64));have Nq3:Hid (Blk uq2 u0.heap.size 64 #[.int .i64 y1,.int .i64 y2]):=Zh (by rw[huq7];exact Blk.new _ _ _);rw[<- huq7];have hbq8:Below u0.heap.size u0 uq2:=by rw[huq7];exact(Ybm _ u0).alloc (Yar _) _
                have Bq4:=Zh (HB0.out.below hbq8 HB0.out.lt);have Rq5:=Zh (Zab HR0.out (λg hg=>hbq8.block g (HR0.out.lt g hg).2));have Wq6:=Zh (Zaa HW0.out hbq8 HW0.out.size);clear huq7 hbq8;have Sq9:=HSS.out _ Wq6.out;refine hK.out _ _ (HSS.out _ Wq6.out) (λht15=>?_);clear hK K;(try simp only[Act.put,lz3,lz4,lz5]);refine rd1 12 ?st16;case st16=>
                 intro K hK;refine Zar _ rfl (.tmp 112) (.tmp 122) 60 rfl (xb+1) 64 i1 _ 2 16 Tryz.underlying60 hi1 hy0 hy1 hy2 rfl (by decide) _ q _ rfl Rq5.out ⟨u0.heap.size,0,none⟩ 1 1 (Zat (y1,y2)) rfl rfl (Zda (p:=(y1,.int .i64 y2)) Nq3.out) (Zgg _) (by unfold maxLen;omega) (by omega) Bq4.out.lt ?_;intro vq16 uq10 hwq11 hgq12 hlq13;obtain⟨Aq14,cq15,rfl⟩:=Zac hwq11;have Bq17:=Zh (Bq4.out.grown hgq12 (λe=>by have:=(Rq5.out.lt xb e.symm).1;omega));have Wq18:=Zh (Wq6.out.grown hgq12 Wq6.out.size (λg hg=>by have:=(Rq5.out.lt g hg).1;have:=HXB.out;omega));have Hhwq11:=Zh hwq11;clear hwq11 hgq12 hlq13;have Sq19:=HSS.out _ Wq18.out;refine hK.out _ _ (HSS.out _ Wq18.out) (λht17=>?_);clear hK K;(try simp only[Act.put,lz3,lz4,lz5]);refine tk 13 ?_;(try simp only[Act.put,lz3,lz4,lz5]);refine rd1 14 ?st19;case st19=>
                  intro K hK;have yq20:=Bq17.out.cell 1;have zq21:=Bq17.out.frozen 1;simp only[lz0,lz1,lz2]at yq20;go_simp;clear yq20 zq21;have Bq22:=Zh (Bq17.out.set_ 1 (.slice Aq14 (q+1) cq15));have Rq23:=Zh (show(uq10.setCell ⟨xb,1,none⟩ (.slice Aq14 (q+1) cq15)).ownsRow (xb+1) 64 2 (.slice Aq14 (q+1) cq15) (q+1) _ from Zab Hhwq11.out (λg hg=>Yb5 uq10 ⟨xb,1,none⟩ (.slice Aq14 (q+1) cq15) g (by have:=(Hhwq11.out.lt g hg).1;simp only;omega)));have Wq24:=Zh (Wq18.out.setCell (p:=⟨xb,1,none⟩) (by have:=HXB.out;simp only;omega) (.slice Aq14 (q+1) cq15));refine hK.out _ _ (HSS.out _ Wq24.out) (λht20=>?_);clear hK K;(try simp only[Act.put,lz3,lz4,lz5]);refine Yb9 (by kernel_rfl) ?_ _;go_wp2;go_roundw;case rel=>
                   refine⟨q+1,_,by omega,by go_num,Bq22.out,?_,Wq24.out⟩;rw[HNX.out];exact Rq23.out
                  case measure=>simp[intOf];omega
              case st12=>
               intro K hK;go_simp;obtain⟨uq25,huq30⟩:=Ze (u0.alloc (.cells #[.int .i64 y1,.int .i64 y2] 64));have Nq26:Hid (Blk uq25 u0.heap.size 64 #[.int .i64 y1,.int .i64 y2]):=Zh (by rw[huq30];exact Blk.new _ _ _);rw[<- huq30];have hbq31:Below u0.heap.size u0 uq25:=by rw[huq30];exact(Ybm _ u0).alloc (Yar _) _
               have Bq27:=Zh (HB0.out.below hbq31 HB0.out.lt);have Rq28:=Zh (Zab HR0.out (λg hg=>hbq31.block g (HR0.out.lt g hg).2));have Wq29:=Zh (Zaa HW0.out hbq31 HW0.out.size);clear huq30 hbq31;have Sq32:=HSS.out _ Wq29.out;refine hK.out _ _ (HSS.out _ Wq29.out) (λht21=>?_);clear hK K;(try simp only[Act.put,lz3,lz4,lz5]);refine rd1 1 ?st22;case st22=>
                intro K hK;have yq33:=Bq27.out.cell 1;simp only[lz0,lz1,lz2]at yq33;go_simp;clear yq33;refine hK.out _ _ (HSS.out _ Wq29.out) (λht23=>?_);clear hK K;(try simp only[Act.put,lz3,lz4,lz5]);refine rd1 12 ?st24;case st24=>
                 intro K hK;refine Zar _ rfl (.tmp 112) (.tmp 122) 60 rfl (xb+1) 64 i1 _ 2 16 Tryz.underlying60 hi1 hy0 hy1 hy2 rfl (by decide) _ q _ rfl Rq28.out ⟨u0.heap.size,0,none⟩ 1 1 (Zat (y1,y2)) rfl rfl (Zda (p:=(y1,.int .i64 y2)) Nq26.out) (Zgg _) (by unfold maxLen;omega) (by omega) Bq27.out.lt ?_;intro vq40 uq34 hwq35 hgq36 hlq37;obtain⟨Aq38,cq39,rfl⟩:=Zac hwq35;have Bq41:=Zh (Bq27.out.grown hgq36 (λe=>by have:=(Rq28.out.lt xb e.symm).1;omega));have Wq42:=Zh (Wq29.out.grown hgq36 Wq29.out.size (λg hg=>by have:=(Rq28.out.lt g hg).1;have:=HXB.out;omega));have Hhwq35:=Zh hwq35;clear hwq35 hgq36 hlq37;have Sq43:=HSS.out _ Wq42.out;refine hK.out _ _ (HSS.out _ Wq42.out) (λht25=>?_);clear hK K;(try simp only[Act.put,lz3,lz4,lz5]);refine tk 13 ?_;(try simp only[Act.put,lz3,lz4,lz5]);refine rd1 14 ?st27;case st27=>
                  intro K hK;have yq44:=Bq41.out.cell 1;have zq45:=Bq41.out.frozen 1;simp only[lz0,lz1,lz2]at yq44;go_simp;clear yq44 zq45;have Bq46:=Zh (Bq41.out.set_ 1 (.slice Aq38 (q+1) cq39));have Rq47:=Zh (show(uq34.setCell ⟨xb,1,none⟩ (.slice Aq38 (q+1) cq39)).ownsRow (xb+1) 64 2 (.slice Aq38 (q+1) cq39) (q+1) _ from Zab Hhwq35.out (λg hg=>Yb5 uq34 ⟨xb,1,none⟩ (.slice Aq38 (q+1) cq39) g (by have:=(Hhwq35.out.lt g hg).1;simp only;omega)));have Wq48:=Zh (Wq42.out.setCell (p:=⟨xb,1,none⟩) (by have:=HXB.out;simp only;omega) (.slice Aq38 (q+1) cq39));refine hK.out _ _ (HSS.out _ Wq48.out) (λht28=>?_);clear hK K;(try simp only[Act.put,lz3,lz4,lz5]);refine Yb9 (by kernel_rfl) ?_ _;go_wp2;go_roundw;case rel=>
                   refine⟨q+1,_,by omega,by go_num,Bq46.out,?_,Wq48.out⟩;rw[HNX.out];exact Rq47.out
                  case measure=>simp[intOf];omega
             ·obtain rfl:q=p.length:=by omega
              have hlz:¬ ((p.length:Int)<(p.length:Int)):=by omega
              rw[Yav (by omega)]at HRI;have c0:=HBI.out.cell 0;have c1:=HBI.out.cell 1;simp only[lz0,lz1,lz2]at c0 c1;have hbo:=Zaa HBo4.out HWI.out HBo4.out.size;obtain⟨R,hR0,hR1,hR2⟩:=HO.out.below (hbo.alloc hbo.size (.cells #[.int .i64 x,.slice Av p.length cv] 62));have hone:=Zsj HONE.out (by rw[HBL.out];exact hm2n);have hpin:=(PairsIn.ownTwo HRI.out hsl (by unfold maxLen;omega) (λy hy=>by have:=hone.fit y hy;unfold Zaj;omega)).below ((Ybm wr.heap.size wr).alloc (Yar _) (.cells #[.int .i64 x,.slice Av p.length cv] 62));have hux:∀ ad,Av=some ad->ad.block<wr.heap.size/\xb+1<=ad.block:=λad e=>by have:=HRI.out.lt ad.block (by rw[e];rfl);omega
              have hul:∀ g,Value.ownBlock (.slice Al l.length cl)=some g->g<wo.heap.size:=λg e=>by
               obtain⟨R',_,h1,_⟩:=HO.out;exact(h1.lt g e).2
              have hxb2:wo.heap.size<=xb:=by have h1:=HXB.out;have h2:=HBo4.out.size;omega
              have HPA:Hid (PostAt (wr.alloc (.cells #[.int .i64 x,.slice Av p.length cv] 62)) (x,s) (x,.slice Av p.length cv) λi=>w.heap.size<=i/\Value.ownBlock (.slice Al l.length cl)≠some i):=Zh ⟨rfl,by have h1:=HX.out;have h2:=hone.doc;unfold Zaj;simp only;omega,Av,cv,by rw[hsl],by rw[hsl];exact Zbi HRI.out,by rw[hsl];exact hpin,λad e _=>⟨by have:=hux ad e;simp;omega,by have h1:=hux ad e;have h3:=HW.out.size;omega,λe2=>by have h1:=hux ad e;have h2:=hul _ e2;omega⟩⟩;have HR1:=Zh hR1;have HR2:=Zh hR2;have HBW:=Zh (Zaa HB4.out HWI.out HB4.out.size);have hup2:=HYES.out d m5 s HONE.out;rw[<- HX.out]at hup2;have HUP2:=Zh hup2;have HLL:=Zh HUK.out.len;obtain⟨i2,hi2,hx0,hx1,hx2⟩:=info_parts Zeq;clear hbo hR1 hR2 hone hpin hux hul hup2;go_wp2_with (at_builtin;refine wpList_append_own_at _ rfl (.tmp 125) (.tmp 127) 56 rfl w.heap.size 62 i2 _ 2 32 Tryz.underlying56 hi2 hx0 hx1 hx2 rfl (by decide) _ l.length _ rfl HR1.out ⟨wr.heap.size,0,none⟩ 1 1 (Zan (x,.slice Av p.length cv)) rfl rfl (Zda (p:=(x,.slice Av p.length cv)) (Blk.new wr 62 #[.int .i64 x,.slice Av p.length cv])) (Zfl _ _ _ _) (by have:=HLL.out;unfold maxLen;omega) (by have:=HLL.out;omega) (by have:=HBW.out.size;simp;omega) ?_;intro v5 w5 hown hgrow _ hloc;have HO5:=Zh (PostsO.push hR0 HR2.out HPA.out hown hgrow (hloc.imp id λe=>⟨_,e,Yar _⟩));have HB5:=Zh ((HBW.out.alloc HBW.out.size _).grown hgrow (by have:=HBW.out.size;simp;omega) (λg hg=>(HR1.out.lt g hg).1));clear hown hgrow hloc);exact⟨⟨k+1,m5,x,l++[(x,s)],by omega,HUP2.out,rfl,rfl,by go_num,HO5.out,HB5.out⟩,by simp[intOf];omega⟩
           ·have d5:((a.length:Int) != (p.length:Int))=true:=by simp;omega
            have HBAD:=Zh (HNO.out (Ztu HG1.out hd HG2'.out HG3.out (.inr hap)));clear hap hl3;go_wp2;go_ret2;exact Zie HBAD.out HB4.out
          ·have d2:(e3==0)=false:=by simpa using hb3
           have d2':(e3 != 0)=true:=by simpa using hb3
           have HBAD:=Zh (HNO.out (Ztu HG1.out hd HG2'.out HG3.out (.inl hb3)));clear hl3 hb3;go_wp2;go_ret2;exact Zie HBAD.out HB4.out
         ·have d2:(e2==0)=false:=by simpa using hb2
          have d2':(e2 != 0)=true:=by simpa using hb2
          have HBAD:=Zh (HNO.out (Qbk HG1.out hd (by rw[<- HM3.out];exact HG2.out) hb2));clear hl2 hb2;go_wp2;go_ret2;exact Zie HBAD.out HB3.out
        ·have d3:decide ((4294967296:Int)<(d:Int))=true:=Yb0 (by omega)
         have HBAD:=Zh (HNO.out (Zsa HG1.out (.inr (by omega))));clear hd;go_wp2;go_ret2;exact Zie HBAD.out HW.out
       ·have d2:(e1==0)=false:=by simpa using hb1
        have d2':(e1 != 0)=true:=by simpa using hb1
        have HBAD:=Zh (HNO.out (Zsa HG1.out (.inl hb1)));clear hl1 hb1;go_wp2;go_ret2;exact Zie HBAD.out HW.out
    ·obtain rfl:k=M:=by omega
     have hlz:¬ ((k:Int)<(k:Int)):=by omega
     have hN:=HUK.out.len;have hsee:PostsSee wo Al k l:=by rw[<- hN];exact HO.out.see rfl (by rw[hN];unfold maxLen;omega)
     have HSEE:=Zh hsee;have HPU:=Zh (Zoo wo Al k cl l hsee (by omega));have HBO:Hid (∀ w2,Below wo.heap.size wo w2->Zkn w (l,0) (.returned (.tuple #[.slice Al k cl,.int .i64 0])) w2):=Zh (λw2 h2=>by rw[<- hN];exact⟨_,rfl,HO.out.below h2,Zaa HW.out h2 HW.out.size⟩);have HEE:Hid (G=if Zb3 l=0/\putP l=b then (l,0) else ([],3)):=Zh (by rw[HE.out,HUP.out]);have HWW:=Zh HW.out;rw[hN];clear hsee hN;go_wp2_with fail;refine HPU.out.mono ?_;rintro e2 w2 ⟨v2,rfl,ho2,hb2⟩;obtain⟨X2,c2,hv2⟩:=Zac ho2;subst hv2;obtain⟨R,hR⟩:=Ze (Zb3 l);have HR:=Zh hR;by_cases h0:R=0
     ·have hpe:putE l=putP l:=by unfold putE;rw[Yag (by rw[<- hR];exact h0)]
      rw[hpe]at ho2 ⊢;rw[<- hR];subst h0;have hin2:=BytesIn.own ho2 (by have h1:=Zex (Zv8 HSEE.out);have h2:=Zsm (h1.1 hR.symm);unfold maxLen;omega);have hin:=HB.out.below (Zaa HW.out hb2 HW.out.size);have cv1:=Zdx hin2 c2;have cv2:=Zdx hin c;have HB2:=Zh hb2;by_cases heq:putP l=b
      ·have HG2:Hid (G=(l,0)):=Zh (by rw[HEE.out,Yag ⟨hR.symm,heq⟩])
       have d7:(putP l==b)=true:=by simpa using heq
       have d7':(putP l != b)=false:=by simp[heq]
       clear hpe ho2 hin hin2 hb2 hR heq;go_wp2;go_ret2;rw[HG2.out];exact HBO.out _ HB2.out
      ·have HG2:Hid (G=([],3)):=Zh (by rw[HEE.out,Yaf (λh=>heq h.2)])
       have d7:(putP l==b)=false:=by simpa using heq
       have d7':(putP l != b)=true:=by simpa using heq
       clear hpe ho2 hin hin2 hb2 hR heq;go_wp2;go_ret2;exact Zie HG2.out (Zaa HWW.out HB2.out HWW.out.size)
     ·rw[<- hR]
      have HG2:Hid (G=([],3)):=Zh (by rw[HEE.out,Yaf (λh=>h0 (by rw[hR];exact h.1))]);have d2:(R==0)=false:=by simpa using h0
      have d2':(R != 0)=true:=by simpa using h0
      have HB2:=Zh hb2;clear hR h0 ho2 hb2;go_wp2;go_ret2;exact Zie HG2.out (Zaa HWW.out HB2.out HWW.out.size)
 ·have d1:(e0==0)=false:=by simpa using he
  have d1':(e0 != 0)=true:=by simpa using he
  have HE:Hid (G=([],3)):=Zh (by rw[HG.out];unfold getP;rw[hgl,Yag (.inl he)]);clear hgl he;go_wp2;go_ret2;exact Zie HE.out (Ybm _ _)
structure OnesSee (w:World) (A:Option Addr) (n:Nat) (L:List MDoc):Prop where
 len:L.length=n
 fit:n<=maxLen
 nil:A=none->n=0
 at_:∀ ad,A=some ad->∀ (i:Nat) (x:MDoc),L[i]?=some x->Zaj x.doc/\w.cell? (ad.add (i*3))=some (.int .i64 x.doc)/\(∃ B c,w.cell? (ad.add (i*3+1))=some (.slice B x.T.length c)/\x.T.length<=c/\IntsIn w B x.T.length x.T)/\∃ B c,w.cell? (ad.add (i*3+2))=some (.slice B x.S.length c)/\x.S.length<=c/\IntsIn w B x.S.length x.S
theorem OnesSee.below {w w':World} {A:Option Addr} {n:Nat} {L:List MDoc} (h:OnesSee w A n L) (hb:Below w.heap.size w w'):OnesSee w' A n L where
 len:=h.len
 fit:=h.fit
 nil:=h.nil
 at_:=λad e i x hx=>by
  obtain⟨h1,h2,⟨B,c,h3,h4,h5⟩,C,d,h6,h7,h8⟩:=h.at_ ad e i x hx;exact⟨h1,Zag hb h2,⟨B,c,Zag hb h3,h4,h5.below hb⟩,C,d,Zag hb h6,h7,h8.below hb⟩
theorem OnesSee.at {w:World} {A:Option Addr} {n:Nat} {L:List MDoc} (h:OnesSee w A n L) (k:Nat) (hk:k<n):
  ∃ ad x B c C d,A=some ad/\L[k]?=some x/\Zaj x.doc/\w.cell? (ad.add (k*3))=some (.int .i64 x.doc)/\w.cell? ⟨(ad.add (k*3)).block,(ad.add (k*3)).off+1,none⟩=some (.slice B x.T.length c)/\w.cell? ⟨(ad.add (k*3)).block,(ad.add (k*3)).off+2,none⟩=some (.slice C x.S.length d)/\x.T.length<=c/\IntsIn w B x.T.length x.T/\x.S.length<=d/\IntsIn w C x.S.length x.S:=by
 have hl:=h.len;cases hA:A with
 | none=>have:=h.nil hA;omega
 | some ad=>
  subst hA;have hx:L[k]?=some (L[k]'(by omega)):=Yax _;obtain⟨h1,h2,⟨B,c,h3,h4,h5⟩,C,d,h6,h7,h8⟩:=h.at_ ad rfl k _ hx;rw[Zcy _ _ _ (by omega)]at h3 h6;exact⟨ad,_,B,c,C,d,rfl,hx,h1,h2,h3,h6,h4,h5,h7,h8⟩
def IntsG (w:World) (G:Nat->Prop) (v:Value) (l:List Int):Prop:=∃ A c,v=.slice A l.length c/\l.length<=c/\IntsIn w A l.length l/\∀ ad,A=some ad->0<l.length->G ad.block
theorem IntsG.keep {w w':World} {G G':Nat->Prop} {v:Value} {l:List Int} (h:IntsG w G v l) (hk:∀ i,G i->w'.heap[i]?=w.heap[i]?) (hs:w.heap.size<=w'.heap.size) (hG:∀ i,i<w.heap.size->G i->G' i):IntsG w' G' v l:=by
 obtain⟨A,c,h1,h2,h3,h4⟩:=h;exact⟨A,c,h1,h2,⟨h3.1,h3.2.1.keep λad e h0=>hk _ (h4 ad e h0),h3.2.2.1,λad e h0=>Ya7 (h3.2.2.2 ad e h0) hs⟩,λad e h0=>hG _ (h3.2.2.2 ad e h0) (h4 ad e h0)⟩
def Zb8 (p:Int×Value×Value):List Value:=[.int .i64 p.1,p.2.1,p.2.2]
theorem Zsh:∀ (l:List (Int×Value×Value)) (i j:Nat) (p:Int×Value×Value) (u:Value),l[i]?=some p->(Zb8 p)[j]?=some u->(l.flatMap Zb8)[i*3+j]?=some u
 | [],i,j,p,u,h,_=>by simp at h
 | a :: r,0,j,p,u,h,h2=>by
  simp at h;subst h;rw[Yan,Yba (by have:=(Ybb.1 h2).1;omega)];simpa using h2
 | a :: r,i+1,j,p,u,h,h2=>by
  have hl:(Zb8 a).length=3:=rfl;rw[Yan,Ybc (by omega),hl,show(i+1)*3+j-3=i*3+j by omega];exact Zsh r i j p u (by simpa using h) h2
def R12At (w:World) (G:Nat->Prop) (b:Nat) (L:List MDoc):Prop:=
 G b/\(∀ i,G i->i<w.heap.size)/\∃ (v:Value) (R:List (Int×Value×Value)),Blk w b 96 #[v]/\R.length=L.length/\w.ownsRow 0 175 3 v L.length (R.flatMap Zb8)/\(∀ g,v.ownBlock=some g->G g/\g≠b)/\
  ∀ (i:Nat) (p:Int×Value×Value) (x:MDoc),R[i]?=some p->L[i]?=some x->p.1=x.doc/\Zaj x.doc/\IntsG w (λi=>G i/\i≠b/\v.ownBlock≠some i) p.2.1 x.T/\IntsG w (λi=>G i/\i≠b/\v.ownBlock≠some i) p.2.2 x.S
theorem R12At.keep {w w':World} {G:Nat->Prop} {b:Nat} {L:List MDoc} (h:R12At w G b L) (hk:∀ i,G i->w'.heap[i]?=w.heap[i]?) (hs:w.heap.size<=w'.heap.size):R12At w' G b L:=by
 obtain⟨h1,h2,v,R,h3,h4,h5,h6,h7⟩:=h;refine⟨h1,λi hi=>Ya7 (h2 i hi) hs,v,R,(hk b h1).trans h3,h4,Zab h5 λg e=>hk g (h6 g e).1,h6,λi p x e1 e2=>?_⟩;obtain⟨q1,q2,q3,q4⟩:=h7 i p x e1 e2;exact⟨q1,q2,q3.keep (λi hi=>hk i hi.1) hs (λ_ _ h=>h),q4.keep (λi hi=>hk i hi.1) hs (λ_ _ h=>h)⟩
theorem R12At.below {w w':World} {G:Nat->Prop} {b:Nat} {L:List MDoc} (h:R12At w G b L) (hb:Below w.heap.size w w'):R12At w' G b L:=h.keep (λi hi=>hb.block i (h.2.1 i hi)) hb.size
theorem R12At.see {w:World} {G:Nat->Prop} {b:Nat} {L:List MDoc} (h:R12At w G b L) (hn:L.length<=1000000):∃ A c,Blk w b 96 #[.slice A L.length c]/\OnesSee w A L.length L:=by
 obtain⟨h1,h2,v,R,h3,h4,h5,h6,h7⟩:=h;obtain⟨A,c,rfl⟩:=Zac h5;have hz:∀ ad,A=some ad->ad=⟨ad.block,0,none⟩:=λad e=>by
  rcases h5.2 with⟨h8,_⟩|⟨g,cap,cur,h8,_⟩
  ·injection h8 with h8
   rw[h8]at e;cases e
  ·injection h8 with h8
   rw[h8]at e;injection e with e;rw[<- e]
 have ha:∀ g k,(⟨g,0,none⟩:Addr).add k=⟨g,k,none⟩:=λg k=>by
  unfold Addr.add;split
  ·rename_i h0;rw[h0]
  ·simp
 refine⟨A,c,h3,rfl,by unfold maxLen;omega,λe=>?_,λad e i x hx=>?_⟩
 ·rcases h5.2 with⟨_,h8⟩|⟨g,cap,cur,h8,_⟩
  ·exact h8
  ·injection h8 with h8
   rw[h8]at e;cases e
 ·have hlt:=(Ybb.1 hx).1
  obtain⟨p,hp⟩:∃ p,R[i]?=some p:=⟨_,Yax (by omega)⟩
  obtain⟨q1,q2,⟨B,cB,q3,q4,q5,_⟩,C,cC,q6,q7,q8,_⟩:=h7 i p x hp hx;have hz:=hz ad e;have hc:=λj u (hj:(Zb8 p)[j]?=some u)=>h5.cells (g:=ad.block) (by rw[e];rfl) (i*3+j) u (Zsh R i j p u hp hj);have c0:=hc 0 _ rfl;have c1:=hc 1 _ rfl;have c2:=hc 2 _ rfl;rw[ha]at c0 c1 c2;refine⟨q2,?_,⟨B,cB,?_,q4,q5⟩,C,cC,?_,q7,q8⟩
  ·rw[hz,ha,<- q1];exact c0
  ·rw[hz,ha,<- q3];exact c1
  ·rw[hz,ha,<- q6];exact c2
theorem Zo9 {w:World} {G:Nat->Prop} {b:Nat} {L:List MDoc} (h:R12At w G b L) (hW:MWF L) (hT:totT L<=900000):Calls Tryz.prog 44 #[.pointer (some ⟨b,0,none⟩)] w (Zya w (Zas L)):=by
 obtain⟨A,c,hblk,hsee⟩:=h.see (by have:=hW.few;omega);have HB:=Zh hblk;have HS:=Zh hsee;have hfew:=hW.few;have hbl:=hblk.lt;obtain⟨n,hn⟩:=Ze L.length;rw[<- hn]at HB HS hfew;have HN:=Zh hn;clear h hW hblk hsee hn;go_enter Tryz.func44,Tryz.ntmps44;go_wp2;go_loopw [3,4] (λv iv wr=>∃ (i:Nat) (o:List Int),i<=n/\iv=.int .i64 i/\o=Zas (L.take i)/\wr.ownsRow w.heap.size 3 1 v o.length (o.map i64V)/\Below w.heap.size w wr) (λ_ iv _=>n-(intOf iv).toNat);case atStart=>exact⟨0,[],by omega,rfl,rfl,⟨rfl,.inl ⟨rfl,rfl⟩⟩,Ybm _ _⟩
 case round=>
  obtain⟨i,o,hi,rfl,ho,hO,hb⟩:=hrel;have HO:=Zh hO;have HBW:=Zh hb;have HOE:=Zh ho;have hblk2:=HB.out.below hb hbl;have c0:=hblk2.cell 0;simp only[lz0,lz1]at c0;obtain⟨Av,cv,rfl,hcv⟩:=Za0 hO;clear hO hb ho hblk2;rcases Yab i n with hlt|hge
  ·have hlt':(i:Int)<(n:Int):=by omega
   have p0:(0:Int)<=(i:Int):=by omega
   have hw5:IntKind.i64.wrap ((i:Int)+1)=(i:Int)+1:=Ybo _ (by omega);obtain⟨_,x,_,_,_,_,-,hx,-⟩:=HS.out.at i hlt;have HTK:Hid (Zas (L.take (i+1))=Zbv (Zas (L.take i)) x.T):=Zh (by
    rw[Ya5,hx];exact Zoi _ _)
   have HTL:Hid (x.T.length+totT (L.take i)<=900000):=Zh (by
    have h1:totT L=totT (L.take (i+1))+totT (L.drop (i+1)):=by rw[<- Zee,Yau]
    have h2:L.take (i+1)=L.take i++[x]:=by rw[Ya5,hx];rfl
    have h3:totT [x]=x.T.length:=by simp[totT]
    rw[h2,Zee,h3]at h1;omega)
   obtain⟨m,hm⟩:=Ze x.T.length;have HM:=Zh hm;have hm9:m<=900000:=by have:=HTL.out;omega
   have HCE:Hid (∀ u,Below w.heap.size w u->∃ pa B cB,A=some pa/\u.cell? ⟨b,0,none⟩=some (.slice A n c)/\u.cell? ⟨(pa.add (i*3)).block,(pa.add (i*3)).off+1,none⟩=some (.slice B m cB)/\IntsIn u B m x.T):=Zh (λu hu=>by
    obtain⟨pa,x',B,cB,C,d,e1,hx',-,-,a1,-,-,hI,-,-⟩:=(HS.out.below hu).at i hlt;obtain rfl:=Ya9 (hx.symm.trans hx');have:=(HB.out.below hu hbl).cell 0
    rw[hm];exact⟨pa,B,cB,e1,by simpa using this,a1,hI⟩)
   clear hx hm;obtain⟨wo,hwo⟩:=Ze wr;subst hwo;go_wp2;go_loopw [3,5] (λv kv wi=>∃ (k:Nat) (o:List Int),k<=m/\kv=.int .i64 k/\o=Zbv (Zas (L.take i)) (x.T.take k)/\wi.ownsRow w.heap.size 3 1 v o.length (o.map i64V)/\Below w.heap.size w wi) (λ_ kv _=>m-(intOf kv).toNat);case atStart=>exact⟨0,o,by omega,rfl,HOE.out,HO.out,HBW.out⟩
   case round=>
    obtain⟨k,o2,hk,rfl,ho2,hO2,hb2⟩:=hrel;have hol:o2.length<=900000:=by
     have h1:=Zht (x.T.take k) (Zas (L.take i));have h2:=Zeh (L.take i);have h3:=HTL.out;rw[<- ho2,Ycc]at h1;omega
    have HO2:=Zh hO2;have HB2:=Zh hb2;have HE2:=Zh ho2;have hbz2:=hb2.size;obtain⟨pa,B,cB,e1,b0,b1,hI⟩:=HCE.out wr hb2;subst e1;have HI:=Zh hI;obtain⟨Av2,cv2,rfl,hcv2⟩:=Za0 hO2;clear hO2 hb2 ho2 hI;have q0:(0:Int)<=(i:Int):=by omega
    have q1:(i:Int)<(n:Int):=by omega
    rcases Yab k m with hlt2|hge2
    ·have hlt2':(k:Int)<(m:Int):=by omega
     have p1:(0:Int)<=(k:Int):=by omega
     have hw6:IntKind.i64.wrap ((k:Int)+1)=(k:Int)+1:=Ybo _ (by omega);obtain⟨pb,t,rfl,ht,a0,-,-⟩:=HI.out.at k hlt2;have HTN:Hid (Zbv (Zas (L.take i)) (x.T.take (k+1))=insI t (Zbv (Zas (L.take i)) (x.T.take k))):=Zh (by rw[Zpz ht,Zlw];rfl);have HII:=Zh (IntsIn.own HO2.out (by unfold maxLen;omega) (λy hy=>by
      rw[HE2.out]at hy;rcases termOne_mem.1 hy with h1|h1
      ·obtain⟨z,h2,h3⟩:=terms_mem.1 h1
       have hzL:=Yce h2;obtain⟨j,hj⟩:=List.getElem?_of_mem hzL;have hjl:=(Ybb.1 hj).1;obtain⟨_,x',_,_,_,_,_,hx',-,-,-,-,-,hI',-⟩:=HS.out.at j (by have:=HN.out;omega);obtain rfl:=Ya9 (hj.symm.trans hx');exact hI'.2.2.1 y h3
      ·exact HI.out.2.2.1 y (Yce h1)))
     have HWI:=Zh (Zrz wr Av2 o2.length cv2 o2 t HII.out (by omega));clear ht;go_wp2_with fail;refine HWI.out.mono ?_;rintro e w9 ⟨v9,rfl,ho9,hb9⟩;have HO9:=Zh (Zcq ho9 hbz2);have HB9:=Zh (Zaa HB2.out hb9 HB2.out.size);clear ho9 hb9 HWI;go_wp2;go_roundw;case rel=>exact⟨k+1,_,by omega,by go_num,by rw[HTN.out,<- HE2.out],HO9.out,HB9.out⟩
     case measure=>simp[intOf];omega
    ·obtain rfl:k=m:=by omega
     have hlz:¬ ((k:Int)<(k:Int)):=by omega
     have HFN:Hid (o2=Zas (L.take (i+1))):=Zh (by
      have h1:x.T.take k=x.T:=Yav (by rw[<- HM.out];exact Yar _);rw[HTK.out,HE2.out,h1])
     go_wp2;go_roundw;case rel=>exact⟨i+1,o2,by omega,by go_num,HFN.out,HO2.out,HB2.out⟩
     case measure=>simp[intOf];omega
  ·obtain rfl:i=n:=by omega
   have hlz:¬ ((i:Int)<(i:Int)):=by omega
   have HFN:Hid (Zas L=o):=Zh (by rw[HOE.out,HN.out,Ya6]);go_wp2;go_ret;rw[HFN.out];exact⟨_,rfl,HO.out,HBW.out⟩
structure Mid (w u:World) (vT:Value) (n:Nat) (xT:List Value) (vS:Value) (m:Nat) (xS:List Value):Prop where
 hb:Below w.heap.size w u
 t:u.ownsRow w.heap.size 3 1 vT n xT
 s:u.ownsRow w.heap.size 3 1 vS m xS
 ne:∀ g,vT.ownBlock=some g->vS.ownBlock≠some g
theorem Mid.start {w u:World} (hb:Below w.heap.size w u):Mid w u (.slice none 0 0) 0 [] (.slice none 0 0) 0 []:=⟨hb,Yb2 _ _ _ _,Yb2 _ _ _ _,λg h=>by cases h⟩
theorem Mid.alloc {w u:World} {vT vS:Value} {n m:Nat} {xT xS:List Value} (h:Mid w u vT n xT vS m xS) (o:Obj):Mid w (u.alloc o) vT n xT vS m xS:=⟨h.hb.alloc h.hb.size o,h.t.alloc o,h.s.alloc o,h.ne⟩
theorem Mid.newT {w u:World} {vT vS:Value} {n m:Nat} {xT xS:List Value} (h:Mid w u vT n xT vS m xS):Mid w (u.alloc (.cells #[] 3)) (.slice (some ⟨u.heap.size,0,none⟩) 0 0) 0 [] vS m xS:=
 ⟨h.hb.alloc h.hb.size _,Ybx u #[] 0 h.hb.size (Ybd _) rfl,h.s.alloc _,λg e e2=>by
  cases e
  exact Ycm _ (h.s.lt _ e2).2⟩
theorem Mid.newS {w u:World} {vT vS:Value} {n m:Nat} {xT xS:List Value} (h:Mid w u vT n xT vS m xS):Mid w (u.alloc (.cells #[] 3)) vT n xT (.slice (some ⟨u.heap.size,0,none⟩) 0 0) 0 []:=
 ⟨h.hb.alloc h.hb.size _,h.t.alloc _,Ybx u #[] 0 h.hb.size (Ybd _) rfl,λg e e2=>by
  cases e2
  exact Ycm _ (h.t.lt _ e).2⟩
theorem Mid.growT {w u u':World} {vT vS v':Value} {n m n':Nat} {xT xS x':List Value} (h:Mid w u vT n xT vS m xS) (hw:u'.ownsRow w.heap.size 3 1 v' n' x') (hg:u.grownBy u' vT.ownBlock) (hl:v'.ownBlock=vT.ownBlock\/v'.ownBlock=some u.heap.size):Mid w u' v' n' x' vS m xS:=by
 refine⟨h.hb.grown hg h.hb.size λk e=>(h.t.lt k e).1,hw,Zab h.s λg e=>hg.block g (h.s.lt g e).2 λe2=>h.ne g e2.symm e,λg e e2=>?_⟩;rcases hl with hl|hl
 ·exact h.ne g (hl.symm.trans e) e2
 ·rw[hl]at e
  cases e
  have:=(h.s.lt _ e2).2
  omega
theorem Mid.growS {w u u':World} {vT vS v':Value} {n m n':Nat} {xT xS x':List Value} (h:Mid w u vT n xT vS m xS) (hw:u'.ownsRow w.heap.size 3 1 v' n' x') (hg:u.grownBy u' vS.ownBlock) (hl:v'.ownBlock=vS.ownBlock\/v'.ownBlock=some u.heap.size):Mid w u' vT n xT v' n' x':=by
 refine⟨h.hb.grown hg h.hb.size λk e=>(h.s.lt k e).1,Zab h.t λg e=>hg.block g (h.t.lt g e).2 λe2=>h.ne g e e2.symm,hw,λg e e2=>?_⟩;rcases hl with hl|hl
 ·exact h.ne g e (hl.symm.trans e2)
 ·rw[hl]at e2
  cases e2
  have:=(h.t.lt _ e).2
  omega
def Zld (w:World) (G:Nat->Prop) (b:Nat) (L:List MDoc) (x:MDoc) (e:Ending) (w':World):Prop:=e=.returned (.int .i64 (mErr L x))/\∃ G',R12At w' G' b (mAdd L x)/\Kept G w w'/\∀ i,G' i->G i\/w.heap.size<=i
theorem Zss {u:World} {base:Nat} {e:TypeId} {v:Value} {n:Nat} {l:List Int} (h:u.ownsRow base e 1 v n (l.map i64V)) (hn:l.length=n) (h63:n<=maxLen) (hl:∀ x∈l,-9223372036854775808<=x/\x<=9223372036854775807) {G:Nat->Prop} (hG:∀ g,v.ownBlock=some g->G g):IntsG u G v l:=by
 obtain⟨A,c,rfl⟩:=Zac h;subst hn;exact⟨A,c,rfl,Zbi h,IntsIn.own h h63 hl,λad e _=>hG _ (by rw[e];rfl)⟩
theorem Qbs {w u u5:World} {G:Nat->Prop} {b N n:Nat} {L:List MDoc} {x:MDoc} {R:List (Int×Value×Value)} {v v5 vT vS:Value} (hE:mErr L x=0) (hN:N=L.length)
  (h1:G b) (h2:∀ i,G i->i<w.heap.size) (h3:Blk w b 96 #[v]) (h4:R.length=L.length) (h6:∀ g,v.ownBlock=some g->G g/\g≠b)
  (h7:∀ (i:Nat) (p:Int×Value×Value) (y:MDoc),R[i]?=some p->L[i]?=some y->p.1=y.doc/\Zaj y.doc/\IntsG w (λi=>G i/\i≠b/\v.ownBlock≠some i) p.2.1 y.T/\IntsG w (λi=>G i/\i≠b/\v.ownBlock≠some i) p.2.2 y.S)
  (hm:Mid w u vT n (x.T.map i64V) vS n (x.S.map i64V)) (hTl:x.T.length=n) (hSl:x.S.length=n) (h63:n<=maxLen) (hd:Zaj x.doc)
  (hTf:∀ y∈x.T,-9223372036854775808<=y/\y<=9223372036854775807) (hSf:∀ y∈x.S,-9223372036854775808<=y/\y<=9223372036854775807)
  (h8:u5.ownsRow 0 175 3 v5 (N+1) (R.flatMap Zb8++Zb8 (x.doc,vT,vS))) (hg:u.grownBy u5 v.ownBlock) (hl:v5.ownBlock=v.ownBlock\/v5.ownBlock=some u.heap.size):
  Zld w G b L x (.returned (.int .i64 0)) (u5.setCell ⟨b,0,none⟩ v5):=by
 have hbw:b<w.heap.size:=h2 b h1;have hs1:=hm.hb.size;have hs2:=hg.size;have hsz:=Zai u5 ⟨b,0,none⟩ v5;have hvw:∀ g,v.ownBlock=some g->g<w.heap.size:=λg e=>h2 g (h6 g e).1;have hv5:∀ g,v5.ownBlock=some g->v.ownBlock=some g\/g=u.heap.size:=λg e=>by
  rcases hl with hl|hl
  ·exact .inl (hl.symm.trans e)
  ·rw[hl]at e;cases e;exact .inr rfl
 have hset:∀ i,i≠b->(u5.setCell ⟨b,0,none⟩ v5).heap[i]?=u5.heap[i]?:=λi hi=>Yb5 u5 ⟨b,0,none⟩ v5 i hi;have hgr:∀ i,i<u.heap.size->v.ownBlock≠some i->u5.heap[i]?=u.heap[i]?:=λi hi hne=>hg.block i hi λe=>hne e.symm;have hold:∀ i,i<w.heap.size->i≠b->v.ownBlock≠some i->(u5.setCell ⟨b,0,none⟩ v5).heap[i]?=w.heap[i]?:=λi hi hne hnv=>by
  rw[hset i hne,hgr i (by omega) hnv,hm.hb.block i hi]
 have hnew:∀ g,w.heap.size<=g->g<u.heap.size->(u5.setCell ⟨b,0,none⟩ v5).heap[g]?=u.heap[g]?:=λg h1 h2=>by
  rw[hset g (by omega),hgr g h2 λe=>by have:=hvw g e;omega]
 have hB5:Blk u5 b 96 #[v]:=(h3.below hm.hb hbw).grown hg λe=>(h6 b e.symm).2 rfl;refine⟨by rw[hE],λi=>G i\/(w.heap.size<=i/\i<u5.heap.size),?_,?_,λi hi=>hi.imp id λh=>h.1⟩
 ·rw[show mAdd L x=L++[x] by unfold mAdd;rw[Yag hE]]
  refine⟨.inl h1,λi hi=>by rcases hi with hi|hi;(have:=h2 i hi;omega);omega,v5,R++[(x.doc,vT,vS)],by simpa using hB5.set_ 0 v5,by simp[h4],?_,λg e=>?_,λi p y e1 e2=>?_⟩
  ·rw[Yaq,Yae,<- hN,Ybg]
   refine Zab (by simpa using h8) λg e=>hset g ?_;rcases hv5 g e with h|h
   ·exact(h6 g h).2
   ·omega
  ·rcases hv5 g e with h|h
   ·exact⟨.inl (h6 g h).1,(h6 g h).2⟩
   ·have:=(h8.lt g e).2
    exact⟨.inr ⟨by omega,by omega⟩,by omega⟩
  ·rcases Yab i R.length with hi|hi
   ·rw[Yba hi]at e1
    rw[Yba (by omega)]at e2;obtain⟨q1,q2,q3,q4⟩:=h7 i p y e1 e2;have hG:∀ i,i<w.heap.size->(G i/\i≠b/\v.ownBlock≠some i)->((G i\/(w.heap.size<=i/\i<u5.heap.size))/\i≠b/\v5.ownBlock≠some i):=λi hi h=>⟨.inl h.1,h.2.1,λe=>by
     rcases hv5 i e with h'|h'
     ·exact h.2.2 h'
     ·omega⟩
    have hk:∀ i,(G i/\i≠b/\v.ownBlock≠some i)->(u5.setCell ⟨b,0,none⟩ v5).heap[i]?=w.heap[i]?:=λi h=>hold i (h2 i h.1) h.2.1 h.2.2;exact⟨q1,q2,q3.keep hk (by omega) hG,q4.keep hk (by omega) hG⟩
   ·rw[Ybc hi]at e1
    rw[Ybc (by omega)]at e2;obtain⟨hi0,rfl⟩:i=R.length/\p=(x.doc,vT,vS):=by
     have:=(Ybb.1 e1).1
     simp only[Yae]at this;have h0:i-R.length=0:=by omega
     rw[h0]at e1;exact⟨by omega,by simpa using e1.symm⟩
    obtain rfl:y=x:=by
     rw[show i-L.length=0 by omega]at e2;simpa using e2.symm
    have hin:∀ g,w.heap.size<=g->g<u.heap.size->((G g\/(w.heap.size<=g/\g<u5.heap.size))/\g≠b/\v5.ownBlock≠some g):=λg a1 a2=>⟨.inr ⟨a1,by omega⟩,by omega,λe=>by
     rcases hv5 g e with h'|h'
     ·have:=hvw g h';omega
     ·omega⟩
    exact⟨rfl,hd,Zss (Zab hm.t λg e=>hnew g (hm.t.lt g e).1 (hm.t.lt g e).2) hTl h63 hTf λg e=>hin g (hm.t.lt g e).1 (hm.t.lt g e).2,
     Zss (Zab hm.s λg e=>hnew g (hm.s.lt g e).1 (hm.s.lt g e).2) hSl h63 hSf λg e=>hin g (hm.s.lt g e).1 (hm.s.lt g e).2⟩
 ·exact((Kept.below hm.hb).grown hg λk e=>.inl (h6 k e).1).setCell (.inl h1) v5
theorem Ze6 {w w':World} {A:Option Addr} {n:Nat} {xs:List Value} (h:Src w A n xs) (hb:Below w.heap.size w w'):Src w' A n xs:=⟨h.len,λad e j u hu=>Zag hb (h.cells ad e j u hu),h.nil⟩
theorem Zg0 (l:List Int):∀ u∈l.map i64V,u.oneCell'=true:=λu hu=>by
 obtain⟨x,_,rfl⟩:=Yaz.1 hu;rfl
theorem Qd8 (d:Int) (A C:Option Addr) (n m c k:Nat):∀ u∈Zb8 (d,.slice A n c,.slice C m k),u.oneCell'=true:=λu hu=>by
 simp[Zb8]at hu;rcases hu with rfl|rfl|rfl<;>rfl
theorem Zzz {w:World} {g:Nat} {e:TypeId} {p:Int×Value×Value} (h:Blk w g e #[.int .i64 p.1,p.2.1,p.2.2]):∀ (j:Nat) (u:Value),(Zb8 p)[j]?=some u->w.cell? ((⟨g,0,none⟩:Addr).add j)=some u:=by
 intro j u hu
 match j with
 | 0=>
  simp[Zb8]at hu;subst hu;exact h.cell 0
 | 1=>
  simp[Zb8]at hu;subst hu;exact h.cell 1
 | 2=>
  simp[Zb8]at hu;subst hu;exact h.cell 2
 | j+3=>simp[Zb8]at hu
theorem Qd7 {L:List MDoc} {x:MDoc} (h:mErr L x≠0):mAdd L x=L:=by unfold mAdd;rw[Yaf h]
theorem Zm0 {w w':World} {G:Nat->Prop} {b:Nat} {L:List MDoc} {x:MDoc} {E:Int} (h:R12At w G b L) (hE:mErr L x=E) (h0:E≠0) (hb:Below w.heap.size w w'):Zld w G b L x (.returned (.int .i64 E)) w':=
 ⟨by rw[hE],G,by rw[Qd7 (by rw[hE];exact h0)];exact h.below hb,Kept.below hb,λi hi=>.inl hi⟩
theorem Qd4:(Tryz.prog.info? 175).map (λi=>(i.zero,i.size,i.bytes))=some (some (.agg #[.int .i64 0,.slice none 0 0,.slice none 0 0]),3,56):=by kernel_rfl
theorem share2.{ua, ub} {α : Sort ua} {β : Sort ub} {G : Prop} (H T : α → β → Prop) (h : (∀ a0 a1, H a0 a1 → T a0 a1) → G) (t : ∀ a0 a1, H a0 a1 → T a0 a1) : G := h t
theorem share3.{ua, ub, uc} {α : Sort ua} {β : Sort ub} {γ : Sort uc} {G : Prop} (H T : α → β → γ → Prop) (h : (∀ a0 a1 a2, H a0 a1 a2 → T a0 a1 a2) → G) (t : ∀ a0 a1 a2, H a0 a1 a2 → T a0 a1 a2) : G := h t
theorem share4.{ua, ub, uc, ud} {α : Sort ua} {β : Sort ub} {γ : Sort uc} {δ : Sort ud} {G : Prop} (H T : α → β → γ → δ → Prop) (h : (∀ a0 a1 a2 a3, H a0 a1 a2 a3 → T a0 a1 a2 a3) → G) (t : ∀ a0 a1 a2 a3, H a0 a1 a2 a3 → T a0 a1 a2 a3) : G := h t
theorem share5.{ua, ub, uc, ud, ue} {α : Sort ua} {β : Sort ub} {γ : Sort uc} {δ : Sort ud} {ε : Sort ue} {G : Prop} (H T : α → β → γ → δ → ε → Prop) (h : (∀ a0 a1 a2 a3 a4, H a0 a1 a2 a3 a4 → T a0 a1 a2 a3 a4) → G) (t : ∀ a0 a1 a2 a3 a4, H a0 a1 a2 a3 a4 → T a0 a1 a2 a3 a4) : G := h t
theorem share7.{ua, ub, uc, ud, ue, uf, ug} {α : Sort ua} {β : Sort ub} {γ : Sort uc} {δ : Sort ud} {ε : Sort ue} {ζ : Sort uf} {η : Sort ug} {G : Prop} (H T : α → β → γ → δ → ε → ζ → η → Prop) (h : (∀ a0 a1 a2 a3 a4 a5 a6, H a0 a1 a2 a3 a4 a5 a6 → T a0 a1 a2 a3 a4 a5 a6) → G) (t : ∀ a0 a1 a2 a3 a4 a5 a6, H a0 a1 a2 a3 a4 a5 a6 → T a0 a1 a2 a3 a4 a5 a6) : G := h t
theorem share8.{ua, ub, uc, ud, ue, uf, ug, uh} {α : Sort ua} {β : Sort ub} {γ : Sort uc} {δ : Sort ud} {ε : Sort ue} {ζ : Sort uf} {η : Sort ug} {θ : Sort uh} {G : Prop} (H T : α → β → γ → δ → ε → ζ → η → θ → Prop) (h : (∀ a0 a1 a2 a3 a4 a5 a6 a7, H a0 a1 a2 a3 a4 a5 a6 a7 → T a0 a1 a2 a3 a4 a5 a6 a7) → G) (t : ∀ a0 a1 a2 a3 a4 a5 a6 a7, H a0 a1 a2 a3 a4 a5 a6 a7 → T a0 a1 a2 a3 a4 a5 a6 a7) : G := h t
theorem Zvi {w:World} {G:Nat->Prop} {b:Nat} {L:List MDoc} (h:R12At w G b L) (hW:MWF L) (x:MDoc) (A C:Option Addr) (n m c cc:Nat) (hT:IntsIn w A n x.T) (hS:IntsIn w C m x.S) (hd:Zaj x.doc):
  Calls Tryz.prog 43 #[.pointer (some ⟨b,0,none⟩),.int .i64 x.doc,.slice A n c,.slice C m cc] w (Zld w G b L x):=by
 obtain⟨i0,hii,hz0,hz1,hz2⟩:=info_parts Ztk;obtain⟨i1,hi1,hy0,hy1,hy2⟩:=info_parts Qd4;obtain⟨Al,cl,hblk,hsee⟩:=h.see (by have:=hW.few;omega);have HB:=Zh hblk;have HS:=Zh hsee;have HR:=Zh h;have hfew:=hW.few;have hbl:=hblk.lt;obtain⟨N,hN⟩:=Ze L.length;rw[<- hN]at HB HS hfew;have HN:=Zh hN;have HTI:=Zh hT;have HSI:=Zh hS;have HTL:=Zh hT.len;have HSL:=Zh hS.len;have hn63:=hT.1;have hm63:=hS.1;unfold maxLen at hn63 hm63;obtain⟨D,hD⟩:=Ze x.doc;rw[<- hD]at hd ⊢;have HD:=Zh hD;have c0:=hblk.cell 0;simp only[lz0,lz1]at c0;rw[<- hN]at c0;have c0q:∀ q,(w.drewN q).cell? ⟨b,0,none⟩=some (.slice Al N cl):=λq=>c0;clear h hW hblk hsee hN hT hS hD;go_enter Tryz.func43,Tryz.ntmps43;by_cases hbig:4096<=N
 ·have d1:decide ((4096:Int)<=(N:Int))=true:=Yb0 (by omega)
  have HE:Hid (mErr L x=2):=Zh (by unfold mErr;rw[Yag (.inl (by rw[<- HN.out];exact hbig))]);go_wp2;go_ret;exact Zm0 HR.out HE.out (by decide) (Ybm _ _)
 have d1:decide ((4096:Int)<=(N:Int))=false:=Ybt (by omega);by_cases hbn:4096<n
 ·have d2:decide ((4096:Int)<(n:Int))=true:=Yb0 (by omega)
  have HE:Hid (mErr L x=2):=Zh (by unfold mErr;rw[Yag (.inr (by rw[HTL.out];exact hbn))]);go_wp2;go_ret;exact Zm0 HR.out HE.out (by decide) (Ybm _ _)
 have d2:decide ((4096:Int)<(n:Int))=false:=Ybt (by omega);obtain⟨tb,htb⟩:∃ tb:Bool,tb=decide (D<0\/4294967296<D\/(0<N/\D<=(mD L (N-1)).doc)\/n≠m):=⟨_,rfl⟩
 have HTB:=Zh htb;clear htb;go_upto_region 3 with fail;clear c0 d1 d2;go_cut [58] (λv wx=>v=.bool tb/\∃ q,wx=w.drewN q);case first=>
  by_cases h1:D<0
  ·have e1:decide (D<0)=true:=Yb0 h1
   obtain rfl:tb=true:=by rw[HTB.out];exact Yb0 (.inl h1)
   go_wp2;go_quiet (fail);go_wp2_with fail;go_meet;case rel=>exact⟨rfl,_,rfl⟩
  have e1:decide (D<0)=false:=Ybt h1;by_cases h2:4294967296<D
  ·have e2:decide (4294967296<D)=true:=Yb0 h2
   obtain rfl:tb=true:=by rw[HTB.out];exact Yb0 (.inr (.inl h2))
   go_wp2;go_quiet (fail);go_wp2_with fail;go_meet;case rel=>exact⟨rfl,_,rfl⟩
  have e2:decide (4294967296<D)=false:=Ybt h2;by_cases h3:0<N
  ·have e3:decide ((0:Int)<(N:Int))=true:=Yb0 (by omega)
   have p3:(0:Int)<(N:Int):=by omega
   obtain⟨N1,hN1⟩:∃ N1,N=N1+1:=⟨N-1,by omega⟩
   have hwn:IntKind.i64.wrap ((N:Int)-1)=(N1:Int):=by rw[show(N:Int)-1=(N1:Int) by omega];exact Ybo _ (by omega)
   have q0:(0:Int)<=(N1:Int):=by omega
   have q1:(N1:Int)<(N:Int):=by omega
   obtain⟨pa,y,B,cB,C',cC,rfl,hy,-,a0,-,-,-,-,-,-⟩:=HS.out.at N1 (by omega);have hyd:(mD L (N-1)).doc=y.doc:=by rw[show N-1=N1 by omega,Zq8 hy]
   rw[hyd]at HTB;obtain⟨yd,hydd⟩:=Ze y.doc;rw[<- hydd]at a0 HTB;have a0q:∀ q,(w.drewN q).cell? (pa.add (N1*3))=some (.int .i64 yd):=λq=>a0;clear hy hyd hydd a0 hN1;by_cases h4:D<=yd
   ·have e4:decide (D<=yd)=true:=Yb0 h4
    obtain rfl:tb=true:=by rw[HTB.out];exact Yb0 (.inr (.inr (.inl ⟨h3,h4⟩)))
    go_wp2;go_quiet (fail);go_wp2_with fail;go_meet;case rel=>exact⟨rfl,_,rfl⟩
   have e4:decide (D<=yd)=false:=Ybt h4;by_cases h5:n=m
   ·have e5:((n:Int) != (m:Int))=false:=by rw[h5];simp
    obtain rfl:tb=false:=by rw[HTB.out];exact Ybt (by omega)
    clear h5;go_wp2;go_quiet (fail);go_wp2_with fail;go_meet;case rel=>exact⟨rfl,_,rfl⟩
   ·have e5:((n:Int) != (m:Int))=true:=by simp;omega
    obtain rfl:tb=true:=by rw[HTB.out];exact Yb0 (by omega)
    clear h5;go_wp2;go_quiet (fail);go_wp2_with fail;go_meet;case rel=>exact⟨rfl,_,rfl⟩
  ·have e3:decide ((0:Int)<(N:Int))=false:=Ybt (by omega)
   by_cases h5:n=m
   ·have e5:((n:Int) != (m:Int))=false:=by rw[h5];simp
    obtain rfl:tb=false:=by rw[HTB.out];exact Ybt (by omega)
    clear h5;go_wp2;go_quiet (fail);go_wp2_with fail;go_meet;case rel=>exact⟨rfl,_,rfl⟩
   ·have e5:((n:Int) != (m:Int))=true:=by simp;omega
    obtain rfl:tb=true:=by rw[HTB.out];exact Yb0 (by omega)
    clear h5;go_wp2;go_quiet (fail);go_wp2_with fail;go_meet;case rel=>exact⟨rfl,_,rfl⟩
 case rest=>
 obtain⟨rfl,q0,hwx⟩:=hcut;rw[hwx];clear hwx;cases tb with
 | true=>
  have HE:Hid (mErr L x=1):=Zh (by
   have h1:=of_decide_eq_true HTB.out.symm;unfold mErr;rw[Yaf (by rw[<- HN.out,HTL.out];omega),Yag (by rw[<- HN.out,HTL.out,HSL.out,<- HD.out];exact h1)])
  go_wp2;go_ret;exact Zm0 HR.out HE.out (by decide) (Zaf (Ybm _ w) q0)
 | false=>
  have hno:=of_decide_eq_false HTB.out.symm;have hnm:n=m:=by omega
  subst hnm;have HNO:=Zh hno;clear hno;go_wp2;go_loopw [9] (λiv wr=>∃ i q:Nat,i<=n/\iv=.int .i64 i/\wr=w.drewN q/\Zdk x i=false) (λiv _=>n-(intOf iv).toNat);case atStart=>exact⟨0,q0,by omega,rfl,rfl,rfl⟩
  case round=>
   obtain⟨i,q,hi,rfl,hwr,hbt⟩:=hrel;have HBT:=Zh hbt;have HWR:=Zh hwr;clear hbt hwr;rcases Yab i n with hlt|hge
   ·have hlt':(i:Int)<(n:Int):=by omega
    have p0:(0:Int)<=(i:Int):=by omega
    have hw5:IntKind.i64.wrap ((i:Int)+1)=(i:Int)+1:=Ybo _ (by omega);obtain⟨pt,y,rfl,hy,d0,-,-⟩:=HTI.out.at i hlt;obtain⟨pc,z,rfl,hz,e0,-,-⟩:=HSI.out.at i hlt;have HY:=Zh (show x.T.getD i 0=y from by rw[Yaw,hy];rfl);have HZ:=Zh (show x.S.getD i 0=z from by rw[Yaw,hz];rfl);have d0q:∀ k,(wr.drewN k).cell? (pt.add i)=some (.int .i64 y):=λk=>by rw[HWR.out];exact d0
    have e0q:∀ k,(wr.drewN k).cell? (pc.add i)=some (.int .i64 z):=λk=>by rw[HWR.out];exact e0
    obtain⟨ub,hub⟩:∃ ub:Bool,ub=Zjs x i:=⟨_,rfl⟩
    have HUB:=Zh hub;have HNX:Hid (Zdk x (i+1)=ub):=Zh (by rw[Zdk,HBT.out,HUB.out];rfl);clear hy hz d0 e0 hub;obtain⟨wo,hwo⟩:=Ze wr;subst hwo;go_upto_region 8 with fail;go_cut [92]from 59 to 92 (λv wx=>v=.bool ub/\∃ k,wx=wo.drewN k);case first=>
     by_cases h1:y<0
     ·have f1:decide (y<0)=true:=Yb0 h1
      obtain rfl:ub=true:=by rw[HUB.out];unfold Zjs;rw[HY.out,f1];rfl
      go_wp2;go_quiet (fail);go_wp2_with fail;go_meet;case rel=>exact⟨rfl,_,rfl⟩
     have f1:decide (y<0)=false:=Ybt h1;by_cases h2:z<0
     ·have f2:decide (z<0)=true:=Yb0 h2
      obtain rfl:ub=true:=by rw[HUB.out];unfold Zjs;rw[HZ.out,f2];simp
      go_wp2;go_quiet (fail);go_wp2_with fail;go_meet;case rel=>exact⟨rfl,_,rfl⟩
     have f2:decide (z<0)=false:=Ybt h2;by_cases h3:0<i
     ·have f3:decide ((0:Int)<(i:Int))=true:=Yb0 (by omega)
      have g3:(0:Int)<(i:Int):=by omega
      obtain⟨i1',hi1'⟩:∃ i1',i=i1'+1:=⟨i-1,by omega⟩
      have hwm:IntKind.i64.wrap ((i:Int)-1)=(i1':Int):=by rw[show(i:Int)-1=(i1':Int) by omega];exact Ybo _ (by omega)
      have g0:(0:Int)<=(i1':Int):=by omega
      have g1:(i1':Int)<(n:Int):=by omega
      obtain⟨pc2,z2,epc,hz2',e2,-,-⟩:=HSI.out.at i1' (by omega);obtain rfl:=Ya9 epc;have HZ2:=Zh (show x.S.getD (i-1) 0=z2 from by rw[show i-1=i1' by omega,Yaw,hz2'];rfl);have e2q:∀ k,(wo.drewN k).cell? (pc.add i1')=some (.int .i64 z2):=λk=>by rw[HWR.out];exact e2
      clear hz2' e2 epc hi1';by_cases h4:z<=z2
      ·have f4:decide (z<=z2)=true:=Yb0 h4
       obtain rfl:ub=true:=by rw[HUB.out];unfold Zjs;rw[HZ.out,HZ2.out,f4,Yb0 h3];simp
       go_wp2;go_quiet (fail);go_wp2_with fail;go_meet;case rel=>exact⟨rfl,_,rfl⟩
      ·have f4:decide (z<=z2)=false:=Ybt h4
       obtain rfl:ub=false:=by rw[HUB.out];unfold Zjs;rw[HY.out,HZ.out,HZ2.out,f1,f2,f4];simp
       go_wp2;go_quiet (fail);go_wp2_with fail;go_meet;case rel=>exact⟨rfl,_,rfl⟩
     ·have f3:decide ((0:Int)<(i:Int))=false:=Ybt (by omega)
      obtain rfl:ub=false:=by rw[HUB.out];unfold Zjs;rw[HY.out,HZ.out,f1,f2,Ybt h3];rfl
      go_wp2;go_quiet (fail);go_wp2_with fail;go_meet;case rel=>exact⟨rfl,_,rfl⟩
    case rest=>
    obtain⟨rfl,k,hwx⟩:=hcut;rw[hwx];clear hwx d0q e0q;have HW2:Hid (wo.drewN k=w.drewN (q+k)):=Zh (by rw[HWR.out,Ybs]);cases ub with
    | true=>
     have HE:Hid (mErr L x=1):=Zh (by
      have h1:=HNO.out;have h2:Zdk x n=true:=by
       cases h3:Zdk x n with
       | true=>rfl
       | false=>
        have h4:=badTo_iff.1 h3 i hlt;rw[<- HUB.out]at h4;cases h4
      unfold mErr;rw[Yaf (by rw[<- HN.out,HTL.out];omega),Yaf (by rw[<- HN.out,HTL.out,HSL.out,<- HD.out];exact h1),HTL.out,Yag h2])
     go_wp2;go_ret;rw[HW2.out];exact Zm0 HR.out HE.out (by decide) (Zaf (Ybm _ w) _)
    | false=>
     go_wp2;go_roundw;case rel=>exact⟨i+1,q+k,by omega,by go_num,HW2.out,HNX.out⟩
     case measure=>simp[intOf];omega
   ·obtain rfl:i=n:=by omega
    have hlz:¬ ((i:Int)<(i:Int)):=by omega
    have HE:Hid (mErr L x=0):=Zh (by
     have h1:=HNO.out;unfold mErr;rw[Yaf (by rw[<- HN.out,HTL.out];omega),Yaf (by rw[<- HN.out,HTL.out,HSL.out,<- HD.out];exact h1),HTL.out,HBT.out];rfl)
    have hTf:=HTI.out.2.2.1;have hSf:=HSI.out.2.2.1;have HTF:=Zh hTf;have HSF:=Zh hSf;have HTS:=Zh HTI.out.2.1;have HSS:=Zh HSI.out.2.1;clear hTf hSf;obtain⟨hGb,hGl,v,R,hBv,hRl,hown,hgo,hRx⟩:=HR.out;rw[<- HN.out]at hown;obtain⟨A1,c1,rfl⟩:=Zac hown;have HGB:=Zh hGb;have HGL:=Zh hGl;have HBV:=Zh hBv;have HRL:=Zh hRl;have HOW:=Zh hown;have HGO:=Zh hgo;have HRX:=Zh hRx;clear hGb hGl hBv hRl hown hgo hRx;go_upto_region 10 with fail;refine Yb8 (S:=λ_=>True) (by kernel_rfl) trivial (λhHeld=>?_);obtain⟨u0,hu0⟩:=Ze wr.drew;rw[<- hu0];have HM0:Hid (Mid w u0 (.slice none 0 0) 0 [] (.slice none 0 0) 0 []):=Zh (Mid.start (by rw[hu0,HWR.out];exact(Zaf (Ybm _ w) q).drew));clear hu0;refine tk 0 ?_;(try simp only[Act.put,lz3,lz4,lz5]);refine tk 1 ?_;(try simp only[Act.put,lz3,lz4,lz5]);refine tk 2 ?_;(try simp only[Act.put,lz3,lz4,lz5]);refine tk 3 ?_;(try simp only[Act.put,lz3,lz4,lz5]);refine tk 5 ?_;(try simp only[Act.put,lz3,lz4,lz5]);refine tk 7 ?_;(try simp only[Act.put,lz3,lz4,lz5]);refine tk 10 ?_;(try simp only[Act.put,lz3,lz4,lz5]);apply share8 (α:=World) (β:=Nat) (γ:=Nat) (δ:=Option Addr) (ε:=Nat) (ζ:=Nat) (η:=Option Addr) (θ:=Nat);case h=>
     intro TLt0;apply share7 (α:=World) (β:=Nat) (γ:=Option Addr) (δ:=Nat) (ε:=Nat) (ζ:=Option Addr) (η:=Nat);case h=>
      intro TLt1;apply share5 (α:=World) (β:=Nat) (γ:=Nat) (δ:=Option Addr) (ε:=Nat);case h=>
       intro TLt2;apply share4 (α:=World) (β:=Nat) (γ:=Option Addr) (δ:=Nat);case h=>
        intro TLt3;apply share3 (α:=World) (β:=Nat) (γ:=Nat);case h=>
         intro TLt4;apply share5 (α:=World) (β:=Nat) (γ:=Nat) (δ:=Option Addr) (ε:=Nat);case h=>
          intro TLt5;apply share2 (α:=World) (β:=Nat);case h=>
           intro TLt6;apply share2 (α:=World) (β:=Nat);case h=>
            intro TLt7;apply share3 (α:=World) (β:=Nat) (γ:=Nat);case h=>
             intro TLt8;refine rd3 4 6 9 ?st8 ?st9 ?st10;case st8=>
              intro K hK;have yq98:=(HBV.out.below HM0.out.hb hbl).cell 0;simp only[lz0,lz1,lz2]at yq98;go_simp;clear yq98;refine hK.out _ _ trivial (λht11=>?_);clear hK K;(try simp only[Act.put,lz3,lz4,lz5]);refine rd2 6 9 ?st12 ?st13;case st12=>
               intro K hK;go_simp;obtain⟨uq99,huq100⟩:=Ze (u0.alloc (.cells #[] 3));have Mq101:=Zh (HM0.out.newT);obtain⟨gq102,hgq103⟩:=Ze u0.heap.size;rw[<- huq100,<- hgq103]at Mq101 ⊢;clear huq100 hgq103;refine hK.out _ _ trivial (λht14=>?_);clear hK K;(try simp only[Act.put,lz3,lz4,lz5]);exact TLt6 uq99 gq102 (And.intro Mq101 ht14)
              case st13=>
               intro K hK;go_simp;obtain⟨uq104,huq105⟩:=Ze (u0.alloc (.cells #[] 3));have Mq106:=Zh (HM0.out.newS);obtain⟨gq107,hgq108⟩:=Ze u0.heap.size;rw[<- huq105,<- hgq108]at Mq106 ⊢;clear huq105 hgq108;refine hK.out _ _ trivial (λht15=>?_);clear hK K;(try simp only[Act.put,lz3,lz4,lz5]);exact TLt7 uq104 gq107 (And.intro Mq106 ht15)
             case st9=>
              intro K hK;go_simp;obtain⟨uq109,huq110⟩:=Ze (u0.alloc (.cells #[] 3));have Mq111:=Zh (HM0.out.newT);obtain⟨gq112,hgq113⟩:=Ze u0.heap.size;rw[<- huq110,<- hgq113]at Mq111 ⊢;clear huq110 hgq113;refine hK.out _ _ trivial (λht16=>?_);clear hK K;(try simp only[Act.put,lz3,lz4,lz5]);refine rd3 4 8 9 ?st17 ?st18 ?st19;case st17=>
               intro K hK;have yq114:=(HBV.out.below Mq111.out.hb hbl).cell 0;simp only[lz0,lz1,lz2]at yq114;go_simp;clear yq114;refine hK.out _ _ trivial (λht20=>?_);clear hK K;(try simp only[Act.put,lz3,lz4,lz5]);exact TLt6 uq109 gq112 (And.intro Mq111 ht20)
              case st18=>
               intro K hK;refine Za1 _ rfl (.tmp 99) (.tmp 100) 52 rfl w.heap.size 3 i0 (.int .i64 0) 8 Tryz.underlying52 hii hz0 hz1 hz2 rfl _ 0 [] rfl Mq111.out.t A i c (x.T.map i64V) rfl (Ze6 HTS.out Mq111.out.hb) (Zg0 _) (by unfold maxLen;omega) (by omega) Mq111.out.hb.size ?_;intro vq116 uq115 hwq117 hgq118 hlq119;have Mq122:=Zh (Mq111.out.growT hwq117 hgq118 hlq119);obtain⟨Aq120,cq121,rfl⟩:=Zac hwq117;rw[Ya4,Yad]at Mq122;rw[Ya4];clear hwq117 hgq118 hlq119;refine hK.out _ _ trivial (λht21=>?_);clear hK K;(try simp only[Act.put,lz3,lz4,lz5]);refine rd2 4 9 ?st22 ?st23;case st22=>
                intro K hK;have yq123:=(HBV.out.below Mq122.out.hb hbl).cell 0;simp only[lz0,lz1,lz2]at yq123;go_simp;clear yq123;refine hK.out _ _ trivial (λht24=>?_);clear hK K;(try simp only[Act.put,lz3,lz4,lz5]);exact TLt3 uq115 gq112 Aq120 cq121 (And.intro Mq122 ht24)
               case st23=>
                intro K hK;go_simp;obtain⟨uq124,huq125⟩:=Ze (uq115.alloc (.cells #[] 3));have Mq126:=Zh (Mq122.out.newS);obtain⟨gq127,hgq128⟩:=Ze uq115.heap.size;rw[<- huq125,<- hgq128]at Mq126 ⊢;clear huq125 hgq128;refine hK.out _ _ trivial (λht25=>?_);clear hK K;(try simp only[Act.put,lz3,lz4,lz5]);exact TLt5 uq124 gq127 gq112 Aq120 cq121 (And.intro Mq126 ht25)
              case st19=>
               intro K hK;go_simp;obtain⟨uq129,huq130⟩:=Ze (uq109.alloc (.cells #[] 3));have Mq131:=Zh (Mq111.out.newS);obtain⟨gq132,hgq133⟩:=Ze uq109.heap.size;rw[<- huq130,<- hgq133]at Mq131 ⊢;clear huq130 hgq133;refine hK.out _ _ trivial (λht26=>?_);clear hK K;(try simp only[Act.put,lz3,lz4,lz5]);exact TLt8 uq129 gq132 gq112 (And.intro Mq131 ht26)
             case st10=>
              intro K hK;go_simp;obtain⟨uq134,huq135⟩:=Ze (u0.alloc (.cells #[] 3));have Mq136:=Zh (HM0.out.newS);obtain⟨gq137,hgq138⟩:=Ze u0.heap.size;rw[<- huq135,<- hgq138]at Mq136 ⊢;clear huq135 hgq138;refine hK.out _ _ trivial (λht27=>?_);clear hK K;(try simp only[Act.put,lz3,lz4,lz5]);refine rd2 4 6 ?st28 ?st29;case st28=>
               intro K hK;have yq139:=(HBV.out.below Mq136.out.hb hbl).cell 0;simp only[lz0,lz1,lz2]at yq139;go_simp;clear yq139;refine hK.out _ _ trivial (λht30=>?_);clear hK K;(try simp only[Act.put,lz3,lz4,lz5]);exact TLt7 uq134 gq137 (And.intro Mq136 ht30)
              case st29=>
               intro K hK;go_simp;obtain⟨uq140,huq141⟩:=Ze (uq134.alloc (.cells #[] 3));have Mq142:=Zh (Mq136.out.newT);obtain⟨gq143,hgq144⟩:=Ze uq134.heap.size;rw[<- huq141,<- hgq144]at Mq142 ⊢;clear huq141 hgq144;refine hK.out _ _ trivial (λht31=>?_);clear hK K;(try simp only[Act.put,lz3,lz4,lz5]);exact TLt8 uq140 gq137 gq143 (And.intro Mq142 ht31)
            case t=>
             intro uxt8 gqxt80 gqxt81 HHx;obtain⟨HMxt8,hSx⟩:=HHx;refine rd2 4 8 ?st32 ?st33;case st32=>
              intro K hK;have yq145:=(HBV.out.below HMxt8.out.hb hbl).cell 0;simp only[lz0,lz1,lz2]at yq145;go_simp;clear yq145;refine hK.out _ _ trivial (λht34=>?_);clear hK K;(try simp only[Act.put,lz3,lz4,lz5]);exact TLt4 uxt8 gqxt80 gqxt81 (And.intro HMxt8 ht34)
             case st33=>
              intro K hK;refine Za1 _ rfl (.tmp 99) (.tmp 100) 52 rfl w.heap.size 3 i0 (.int .i64 0) 8 Tryz.underlying52 hii hz0 hz1 hz2 rfl _ 0 [] rfl HMxt8.out.t A i c (x.T.map i64V) rfl (Ze6 HTS.out HMxt8.out.hb) (Zg0 _) (by unfold maxLen;omega) (by omega) HMxt8.out.hb.size ?_;intro vq147 uq146 hwq148 hgq149 hlq150;have Mq153:=Zh (HMxt8.out.growT hwq148 hgq149 hlq150);obtain⟨Aq151,cq152,rfl⟩:=Zac hwq148;rw[Ya4,Yad]at Mq153;rw[Ya4];clear hwq148 hgq149 hlq150;refine hK.out _ _ trivial (λht35=>?_);clear hK K;(try simp only[Act.put,lz3,lz4,lz5]);exact TLt5 uq146 gqxt80 gqxt81 Aq151 cq152 (And.intro Mq153 ht35)
           case t=>
            intro uxt7 gqxt70 HHx;obtain⟨HMxt7,hSx⟩:=HHx;refine rd1 6 ?st36;case st36=>
             intro K hK;go_simp;obtain⟨uq154,huq155⟩:=Ze (uxt7.alloc (.cells #[] 3));have Mq156:=Zh (HMxt7.out.newT);obtain⟨gq157,hgq158⟩:=Ze uxt7.heap.size;rw[<- huq155,<- hgq158]at Mq156 ⊢;clear huq155 hgq158;refine hK.out _ _ trivial (λht37=>?_);clear hK K;(try simp only[Act.put,lz3,lz4,lz5]);exact TLt4 uq154 gqxt70 gq157 (And.intro Mq156 ht37)
          case t=>
           intro uxt6 gqxt60 HHx;obtain⟨HMxt6,hSx⟩:=HHx;refine rd2 8 9 ?st38 ?st39;case st38=>
            intro K hK;refine Za1 _ rfl (.tmp 99) (.tmp 100) 52 rfl w.heap.size 3 i0 (.int .i64 0) 8 Tryz.underlying52 hii hz0 hz1 hz2 rfl _ 0 [] rfl HMxt6.out.t A i c (x.T.map i64V) rfl (Ze6 HTS.out HMxt6.out.hb) (Zg0 _) (by unfold maxLen;omega) (by omega) HMxt6.out.hb.size ?_;intro vq160 uq159 hwq161 hgq162 hlq163;have Mq166:=Zh (HMxt6.out.growT hwq161 hgq162 hlq163);obtain⟨Aq164,cq165,rfl⟩:=Zac hwq161;rw[Ya4,Yad]at Mq166;rw[Ya4];clear hwq161 hgq162 hlq163;refine hK.out _ _ trivial (λht40=>?_);clear hK K;(try simp only[Act.put,lz3,lz4,lz5]);exact TLt3 uq159 gqxt60 Aq164 cq165 (And.intro Mq166 ht40)
           case st39=>
            intro K hK;go_simp;obtain⟨uq167,huq168⟩:=Ze (uxt6.alloc (.cells #[] 3));have Mq169:=Zh (HMxt6.out.newS);obtain⟨gq170,hgq171⟩:=Ze uxt6.heap.size;rw[<- huq168,<- hgq171]at Mq169 ⊢;clear huq168 hgq171;refine hK.out _ _ trivial (λht41=>?_);clear hK K;(try simp only[Act.put,lz3,lz4,lz5]);exact TLt4 uq167 gq170 gqxt60 (And.intro Mq169 ht41)
         case t=>
          intro uxt5 gqxt50 gqxt51 Aqxt52 cqxt53 HHx;obtain⟨HMxt5,hSx⟩:=HHx;refine rd2 4 11 ?st42 ?st43;case st42=>
           intro K hK;have yq172:=(HBV.out.below HMxt5.out.hb hbl).cell 0;simp only[lz0,lz1,lz2]at yq172;go_simp;clear yq172;refine hK.out _ _ trivial (λht44=>?_);clear hK K;(try simp only[Act.put,lz3,lz4,lz5]);exact TLt2 uxt5 gqxt50 gqxt51 Aqxt52 cqxt53 (And.intro HMxt5 ht44)
          case st43=>
           intro K hK;refine Za1 _ rfl (.tmp 102) (.tmp 103) 52 rfl w.heap.size 3 i0 (.int .i64 0) 8 Tryz.underlying52 hii hz0 hz1 hz2 rfl _ 0 [] rfl HMxt5.out.s C i cc (x.S.map i64V) rfl (Ze6 HSS.out HMxt5.out.hb) (Zg0 _) (by unfold maxLen;omega) (by omega) HMxt5.out.hb.size ?_;intro vq174 uq173 hwq175 hgq176 hlq177;have Mq180:=Zh (HMxt5.out.growS hwq175 hgq176 hlq177);obtain⟨Aq178,cq179,rfl⟩:=Zac hwq175;rw[Ya4,Yad]at Mq180;rw[Ya4];clear hwq175 hgq176 hlq177;refine hK.out _ _ trivial (λht45=>?_);clear hK K;(try simp only[Act.put,lz3,lz4,lz5]);refine tk 12 ?_;(try simp only[Act.put,lz3,lz4,lz5]);refine rd2 4 13 ?st47 ?st48;case st47=>
            intro K hK;have yq181:=(HBV.out.below Mq180.out.hb hbl).cell 0;simp only[lz0,lz1,lz2]at yq181;go_simp;clear yq181;refine hK.out _ _ trivial (λht49=>?_);clear hK K;(try simp only[Act.put,lz3,lz4,lz5]);exact TLt1 uq173 gqxt50 Aq178 cq179 gqxt51 Aqxt52 cqxt53 (And.intro Mq180 ht49)
           case st48=>
            intro K hK;go_simp;obtain⟨uq182,huq183⟩:=Ze (uq173.alloc (.cells #[.int .i64 D,.slice Aqxt52 i cqxt53,.slice Aq178 i cq179] 175));have Mq184:=Zh (Mq180.out.alloc (.cells #[.int .i64 D,.slice Aqxt52 i cqxt53,.slice Aq178 i cq179] 175));have Bq185:Hid (Blk uq182 uq173.heap.size 175 #[.int .i64 D,.slice Aqxt52 i cqxt53,.slice Aq178 i cq179]):=Zh (by rw[huq183];exact Blk.new _ _ _);obtain⟨gq186,hgq187⟩:=Ze uq173.heap.size;rw[<- hgq187]at Bq185;rw[<- huq183]at Mq184;rw[<- huq183,<- hgq187];clear huq183 hgq187;refine hK.out _ _ trivial (λht50=>?_);clear hK K;(try simp only[Act.put,lz3,lz4,lz5]);refine rd1 4 ?st51;case st51=>
             intro K hK;have yq188:=(HBV.out.below Mq184.out.hb hbl).cell 0;simp only[lz0,lz1,lz2]at yq188;go_simp;clear yq188;refine hK.out _ _ trivial (λht52=>?_);clear hK K;(try simp only[Act.put,lz3,lz4,lz5]);exact TLt0 uq182 gq186 gqxt50 Aq178 cq179 gqxt51 Aqxt52 cqxt53 (And.intro Mq184 (And.intro Bq185 ht52))
        case t=>
         intro uxt4 gqxt40 gqxt41 HHx;obtain⟨HMxt4,hSx⟩:=HHx;refine rd1 8 ?st53;case st53=>
          intro K hK;refine Za1 _ rfl (.tmp 99) (.tmp 100) 52 rfl w.heap.size 3 i0 (.int .i64 0) 8 Tryz.underlying52 hii hz0 hz1 hz2 rfl _ 0 [] rfl HMxt4.out.t A i c (x.T.map i64V) rfl (Ze6 HTS.out HMxt4.out.hb) (Zg0 _) (by unfold maxLen;omega) (by omega) HMxt4.out.hb.size ?_;intro vq190 uq189 hwq191 hgq192 hlq193;have Mq196:=Zh (HMxt4.out.growT hwq191 hgq192 hlq193);obtain⟨Aq194,cq195,rfl⟩:=Zac hwq191;rw[Ya4,Yad]at Mq196;rw[Ya4];clear hwq191 hgq192 hlq193;refine hK.out _ _ trivial (λht54=>?_);clear hK K;(try simp only[Act.put,lz3,lz4,lz5]);exact TLt2 uq189 gqxt40 gqxt41 Aq194 cq195 (And.intro Mq196 ht54)
       case t=>
        intro uxt3 gqxt30 Aqxt31 cqxt32 HHx;obtain⟨HMxt3,hSx⟩:=HHx;refine rd1 9 ?st55;case st55=>
         intro K hK;go_simp;obtain⟨uq197,huq198⟩:=Ze (uxt3.alloc (.cells #[] 3));have Mq199:=Zh (HMxt3.out.newS);obtain⟨gq200,hgq201⟩:=Ze uxt3.heap.size;rw[<- huq198,<- hgq201]at Mq199 ⊢;clear huq198 hgq201;refine hK.out _ _ trivial (λht56=>?_);clear hK K;(try simp only[Act.put,lz3,lz4,lz5]);exact TLt2 uq197 gq200 gqxt30 Aqxt31 cqxt32 (And.intro Mq199 ht56)
      case t=>
       intro uxt2 gqxt20 gqxt21 Aqxt22 cqxt23 HHx;obtain⟨HMxt2,hSx⟩:=HHx;refine rd1 11 ?st57;case st57=>
        intro K hK;refine Za1 _ rfl (.tmp 102) (.tmp 103) 52 rfl w.heap.size 3 i0 (.int .i64 0) 8 Tryz.underlying52 hii hz0 hz1 hz2 rfl _ 0 [] rfl HMxt2.out.s C i cc (x.S.map i64V) rfl (Ze6 HSS.out HMxt2.out.hb) (Zg0 _) (by unfold maxLen;omega) (by omega) HMxt2.out.hb.size ?_;intro vq203 uq202 hwq204 hgq205 hlq206;have Mq209:=Zh (HMxt2.out.growS hwq204 hgq205 hlq206);obtain⟨Aq207,cq208,rfl⟩:=Zac hwq204;rw[Ya4,Yad]at Mq209;rw[Ya4];clear hwq204 hgq205 hlq206;refine hK.out _ _ trivial (λht58=>?_);clear hK K;(try simp only[Act.put,lz3,lz4,lz5]);refine tk 12 ?_;(try simp only[Act.put,lz3,lz4,lz5]);exact TLt1 uq202 gqxt20 Aq207 cq208 gqxt21 Aqxt22 cqxt23 (And.intro Mq209 ht58)
     case t=>
      intro uxt1 gqxt10 Aqxt11 cqxt12 gqxt13 Aqxt14 cqxt15 HHx;obtain⟨HMxt1,hSx⟩:=HHx;refine rd1 13 ?st60;case st60=>
       intro K hK;go_simp;obtain⟨uq210,huq211⟩:=Ze (uxt1.alloc (.cells #[.int .i64 D,.slice Aqxt14 i cqxt15,.slice Aqxt11 i cqxt12] 175));have Mq212:=Zh (HMxt1.out.alloc (.cells #[.int .i64 D,.slice Aqxt14 i cqxt15,.slice Aqxt11 i cqxt12] 175));have Bq213:Hid (Blk uq210 uxt1.heap.size 175 #[.int .i64 D,.slice Aqxt14 i cqxt15,.slice Aqxt11 i cqxt12]):=Zh (by rw[huq211];exact Blk.new _ _ _);obtain⟨gq214,hgq215⟩:=Ze uxt1.heap.size;rw[<- hgq215]at Bq213;rw[<- huq211]at Mq212;rw[<- huq211,<- hgq215];clear huq211 hgq215;refine hK.out _ _ trivial (λht61=>?_);clear hK K;(try simp only[Act.put,lz3,lz4,lz5]);exact TLt0 uq210 gq214 gqxt10 Aqxt11 cqxt12 gqxt13 Aqxt14 cqxt15 (And.intro Mq212 (And.intro Bq213 ht61))
    case t=>
     intro uxt0 gqxt00 gqxt01 Aqxt02 cqxt03 gqxt04 Aqxt05 cqxt06 HHx;obtain⟨HMxt0,HNxt0,hSx⟩:=HHx;refine rd1 14 ?st62;case st62=>
      intro K hK;refine Zar _ rfl (.tmp 97) (.tmp 106) 94 rfl 0 175 i1 _ 3 56 Tryz.underlying94 hi1 hy0 hy1 hy2 rfl (by decide) _ N _ rfl (Zab HOW.out λg hg=>HMxt0.out.hb.block g (HOW.out.lt g hg).2) ⟨gqxt00,0,none⟩ 1 1 (Zb8 (D,(.slice Aqxt05 i cqxt06),(.slice Aqxt02 i cqxt03))) rfl rfl (Zzz (p:=(D,(.slice Aqxt05 i cqxt06),(.slice Aqxt02 i cqxt03))) HNxt0.out) (Qd8 _ _ _ _ _ _ _) (by unfold maxLen;omega) (by omega) (Ybd _) ?_;intro vq217 uq216 hwq218 hgq219 hlq220;have Bq223:=Zh ((HBV.out.below HMxt0.out.hb hbl).grown hgq219 (λe=>(HGO.out b e.symm).2 rfl));have Eq224:=Zh (Qbs (n:=i) HE.out HN.out HGB.out HGL.out HBV.out HRL.out HGO.out HRX.out HMxt0.out HTL.out HSL.out (by unfold maxLen;omega) (by rw[<- HD.out];exact hd) HTF.out HSF.out (by rw[<- HD.out];exact hwq218) hgq219 hlq220);obtain⟨Aq221,cq222,rfl⟩:=Zac hwq218;clear hwq218 hgq219 hlq220;refine hK.out _ _ trivial (λht63=>?_);clear hK K;(try simp only[Act.put,lz3,lz4,lz5]);refine tk 15 ?_;(try simp only[Act.put,lz3,lz4,lz5]);refine tk 16 ?_;(try simp only[Act.put,lz3,lz4,lz5]);refine rd1 17 ?st66;case st66=>
       intro K hK;have yq226:=Bq223.out.cell 0;have zq227:=Bq223.out.frozen 0;simp only[lz0,lz1,lz2]at yq226;go_simp;clear yq226 zq227;refine hK.out _ _ trivial (λht67=>?_);clear hK K;(try simp only[Act.put,lz3,lz4,lz5]);refine Yb9 (by kernel_rfl) ?_ _;go_wp2;go_ret;exact Eq224.out
def Qao (w:World) (l:List Pst) (e:Ending) (w':World):Prop:=∃ v,e=.returned v/\PostsO w' w.heap.size v l/\Below w.heap.size w w'
theorem Zpf {w:World} {G:Nat->Prop} {b:Nat} {L:List MDoc} (h:R12At w G b L) (hW:MWF L) (t:Int):Calls Tryz.prog 48 #[.pointer (some ⟨b,0,none⟩),.int .i64 t] w (Qao w (Zax L t)):=by
 obtain⟨i1,hi1,hy0,hy1,hy2⟩:=info_parts Zgs;obtain⟨i2,hi2,hx0,hx1,hx2⟩:=info_parts Zeq;obtain⟨A,c,hblk,hsee⟩:=h.see (by have:=hW.few;omega);have HB:=Zh hblk;have HS:=Zh hsee;have HOK:=Zh hW.ok;have hfew:=hW.few;have hbl:=hblk.lt;obtain⟨n,hn⟩:=Ze L.length;rw[<- hn]at HB HS hfew;have HN:=Zh hn;clear h hW hblk hsee hn;go_enter Tryz.func48,Tryz.ntmps48;go_wp2;go_loopw [5,6] (λv iv wr=>∃ (i:Nat) (l:List Pst),i<=n/\iv=.int .i64 i/\l=Zb5 L t i/\PostsO wr w.heap.size v l/\Below w.heap.size w wr) (λ_ iv _=>n-(intOf iv).toNat);case atStart=>exact⟨0,[],by omega,rfl,rfl,PostsO.nil _ _,Ybm _ _⟩
 case round=>
  obtain⟨i,l,hi,rfl,hl,hO,hb⟩:=hrel;have hll:l.length<=4096:=by have:=Zea L t i;rw[hl];omega
  have HO:=Zh hO;have HBW:=Zh hb;have HLE:=Zh hl;have hblk2:=HB.out.below hb hbl;have c0:=hblk2.cell 0;simp only[lz0,lz1]at c0;obtain⟨Al,cl,rfl⟩:∃ Al cl,u5=.slice Al l.length cl:=by
   obtain⟨R,_,h1,_⟩:=hO;exact Zac h1
  clear hO hb hl hblk2;rcases Yab i n with hlt|hge
  ·have hlt':(i:Int)<(n:Int):=by omega
   have q0:(0:Int)<=(i:Int):=by omega
   have hw5:IntKind.i64.wrap ((i:Int)+1)=(i:Int)+1:=Ybo _ (by omega);obtain⟨pa,x,B,cB,C,cC,rfl,hx,hfx,a0,a1,a2,-,-,-,-⟩:=(HS.out.below HBW.out).at i hlt;have hok:=HOK.out x (Ybz hx);have HOKX:=Zh hok;have HPU:Hid (Zb5 L t (i+1)=l++Zed x t):=Zh (by rw[Zb5,HLE.out,Zq8 hx]);obtain⟨m,hm⟩:=Ze x.T.length;have hm4:m<=4096:=by rw[hm];exact hok.few
   have HM:=Zh hm;have hsm:x.S.length=m:=by rw[hm];exact hok.same
   have HCE:Hid (∀ u,Below w.heap.size w u->u.cell? ⟨b,0,none⟩=some (.slice (some pa) n c)/\u.cell? ⟨(pa.add (i*3)).block,(pa.add (i*3)).off+1,none⟩=some (.slice B m cB)/\u.cell? ⟨(pa.add (i*3)).block,(pa.add (i*3)).off+2,none⟩=some (.slice C m cC)/\IntsIn u B m x.T/\IntsIn u C m x.S):=Zh (λu hu=>by
    obtain⟨pa',x',B',cB',C',cC',e1,hx',-,-,b1,b2,-,hI,-,hJ⟩:=(HS.out.below hu).at i hlt;obtain rfl:=Ya9 e1;obtain rfl:=Ya9 (hx.symm.trans hx');obtain⟨pa'',x'',B'',cB'',C'',cC'',f1,hx'',-,-,d1,d2,-,-,-,-⟩:=(HS.out.below HBW.out).at i hlt;have hu0:=(HB.out.below hu hbl).cell 0;obtain⟨_,x3,B3,cB3,C3,cC3,g1,hx3,-,-,e3,e4,-,-,-,-⟩:=HS.out.at i hlt;obtain rfl:=Ya9 g1;obtain rfl:=Ya9 (hx.symm.trans hx3);have k1:=(Zag hu e3).symm.trans b1;have k2:=(Zag hu e4).symm.trans b2;have k3:=(Zag HBW.out e3).symm.trans a1;have k4:=(Zag HBW.out e4).symm.trans a2;have k5:=k1.symm.trans k3;have k6:=k2.symm.trans k4;injection k5 with k5;injection k5 with k5 _ k5c;injection k6 with k6;injection k6 with k6 _ k6c;subst k5 k6 k5c k6c;rw[<- hm]at b1 hI;rw[hsm]at b2 hJ;exact⟨by simpa using hu0,b1,b2,hI,hJ⟩)
   obtain⟨xd,hxd⟩:=Ze x.doc;rw[<- hxd]at a0 hfx;have HXD:=Zh hxd;obtain⟨wo,hwo⟩:=Ze wr;subst hwo;obtain⟨wi0,hwi0⟩:=Ze (wo.alloc (.cells #[.int .i64 xd,.slice none 0 0] 62));have HBX:Hid (Blk wi0 wo.heap.size 62 #[.int .i64 xd,.slice none 0 0]):=Zh (by rw[hwi0];exact Blk.new _ _ _);have HWX:Hid (Below wo.heap.size wo wi0):=Zh (by rw[hwi0];exact(Ybm _ wo).alloc (Yar _) _);obtain⟨xb,hxb⟩:=Ze wo.heap.size;rw[<- hxb]at HBX;have HXB:=Zh hxb;have HWI0:=Zh hwi0;have hbz:=HBW.out.size;clear hx hok hm hsm hxd hxb hwi0;go_wp2_with fail;rw[<- HWI0.out,<- HXB.out];go_loopw [8] (λkv wi=>∃ (q:Nat) (v:Value) (s:List (Int×Int)),q<=m/\kv=.int .i64 q/\s=Zbu x t q/\Blk wi xb 62 #[.int .i64 xd,v]/\wi.ownsRow (xb+1) 64 2 v s.length (s.flatMap Zat)/\Below wo.heap.size wo wi) (λkv _=>m-(intOf kv).toNat);case atStart=>exact⟨0,_,[],by omega,rfl,rfl,HBX.out,⟨rfl,.inl ⟨rfl,rfl⟩⟩,HWX.out⟩
   case round=>
    obtain⟨q,v,s,hq,rfl,hs,hB,hR,hWi⟩:=hrel;have hsl:s.length<=q:=by rw[hs];exact Zgj x t q
    obtain⟨Av,cv,rfl⟩:=Zac hR;have HBI:=Zh hB;have HRI:=Zh hR;have HWI:=Zh hWi;have HSE:=Zh hs;have HBWI:=Zh (Zaa HBW.out hWi hbz);obtain⟨b0,b1,b2,hI,hJ⟩:=HCE.out wr HBWI.out;have HI:=Zh hI;have HJ:=Zh hJ;have c1x:=hB.cell 1;simp only[lz0,lz1,lz2]at c1x;clear hB hR hWi hs hI hJ;rcases Yab q m with hlq|hgq
    ·have hlq':(q:Int)<(m:Int):=by omega
     have p0:(0:Int)<=(q:Int):=by omega
     have hw12:IntKind.i64.wrap ((q:Int)+1)=(q:Int)+1:=Ybo _ (by omega);obtain⟨pt,y,rfl,hy,d0,-,-⟩:=HI.out.at q hlq;obtain⟨pc,z,rfl,hz,e0,hzf1,hzf2⟩:=HJ.out.at q hlq;have HGT:=Zh (show x.T.getD q 0=y from by rw[Yaw,hy];rfl);have HGS:=Zh (show x.S.getD q 0=z from by rw[Yaw,hz];rfl);have HSS:Hid (∀ u,Below wo.heap.size wo u->u.cell? ⟨b,0,none⟩=some (.slice (some pa) n c)/\u.cell? ⟨(pa.add (i*3)).block,(pa.add (i*3)).off+2,none⟩=some (.slice (some pc) m cC)/\u.cell? (pc.add q)=some (.int .i64 z)):=Zh (λu hu=>by
      obtain⟨r0,-,r2,-,rJ⟩:=HCE.out u (Zaa HBW.out hu hbz);obtain⟨pc',z',f1,f2,f3,-,-⟩:=rJ.at q hlq;obtain rfl:=Ya9 f1;obtain rfl:=Ya9 (hz.symm.trans f2);exact⟨r0,r2,f3⟩)
     clear hy hz;by_cases hyt:y=t
     ·have d1:(y==t)=true:=by simpa using hyt
      have HNX:Hid (Zbu x t (q+1)=s++[((q:Int),z)]):=Zh (by rw[Zbu,Yag (by rw[HGT.out];exact hyt),<- HSE.out,HGS.out]);clear hyt;go_upto_region 10 with fail;clear c1x b1 d0;refine Yb8 (S:=λw'=>w'.cell? ⟨b,0,none⟩=some (.slice (some pa) n c)/\w'.cell? ⟨(pa.add (i*3)).block,(pa.add (i*3)).off+2,none⟩=some (.slice (some pc) m cC)/\w'.cell? (pc.add q)=some (.int .i64 z)) (by kernel_rfl) (HSS.out wr HWI.out) (λhHeld=>?_);obtain⟨u0,hu0⟩:=Ze wr.drew;rw[<- hu0]at hHeld ⊢;have hb0:Below wr.heap.size wr u0:=by rw[hu0];exact(Ybm _ wr).drew
      have HB0:=Zh (HBI.out.below hb0 HBI.out.lt);have HR0:=Zh (Zab HRI.out (λg hg=>hb0.block g (HRI.out.lt g hg).2));have HW0:=Zh (Zaa HWI.out hb0 HWI.out.size);have hSn0:=HSS.out _ HW0.out;clear hu0 hb0;refine tk 0 ?_;(try simp only[Act.put,lz3,lz4,lz5]);refine tk 2 ?_;(try simp only[Act.put,lz3,lz4,lz5]);refine tk 3 ?_;(try simp only[Act.put,lz3,lz4,lz5]);refine tk 7 ?_;(try simp only[Act.put,lz3,lz4,lz5]);refine tk 11 ?_;(try simp only[Act.put,lz3,lz4,lz5]);refine tk 4 ?_;(try simp only[Act.put,lz3,lz4,lz5]);refine tk 5 ?_;(try simp only[Act.put,lz3,lz4,lz5]);refine tk 6 ?_;(try simp only[Act.put,lz3,lz4,lz5]);refine tk 8 ?_;(try simp only[Act.put,lz3,lz4,lz5]);refine tk 9 ?_;(try simp only[Act.put,lz3,lz4,lz5]);refine tk 10 ?_;(try simp only[Act.put,lz3,lz4,lz5]);refine tk 12 ?_;(try simp only[Act.put,lz3,lz4,lz5]);refine tk 13 ?_;(try simp only[Act.put,lz3,lz4,lz5]);refine tk 14 ?_;(try simp only[Act.put,lz3,lz4,lz5]);refine rd2 1 15 ?st15 ?st16;case st15=>
       intro K hK;have yq1:=HB0.out.cell 1;simp only[lz0,lz1,lz2]at yq1;go_simp;clear yq1;refine hK.out _ _ (HSS.out _ HW0.out) (λht17=>?_);clear hK K;(try simp only[Act.put,lz3,lz4,lz5]);refine rd1 15 ?st18;case st18=>
        intro K hK;go_simp;obtain⟨uq2,huq7⟩:=Ze (u0.alloc (.cells #[.int .i64 q,.int .i64 z] 64));have Nq3:Hid (Blk uq2 u0.heap.size 64 #[.int .i64 q,.int .i64 z]):=Zh (by rw[huq7];exact Blk.new _ _ _);rw[<- huq7];have hbq8:Below u0.heap.size u0 uq2:=by rw[huq7];exact(Ybm _ u0).alloc (Yar _) _
        have Bq4:=Zh (HB0.out.below hbq8 HB0.out.lt);have Rq5:=Zh (Zab HR0.out (λg hg=>hbq8.block g (HR0.out.lt g hg).2));have Wq6:=Zh (Zaa HW0.out hbq8 HW0.out.size);clear huq7 hbq8;have Sq9:=HSS.out _ Wq6.out;refine hK.out _ _ (HSS.out _ Wq6.out) (λht19=>?_);clear hK K;(try simp only[Act.put,lz3,lz4,lz5]);refine rd1 16 ?st20;case st20=>
         intro K hK;refine Zar _ rfl (.tmp 54) (.tmp 68) 60 rfl (xb+1) 64 i1 _ 2 16 Tryz.underlying60 hi1 hy0 hy1 hy2 rfl (by decide) _ s.length _ rfl Rq5.out ⟨u0.heap.size,0,none⟩ 1 1 (Zat ((q:Int),z)) rfl rfl (Zda (p:=((q:Int),.int .i64 z)) Nq3.out) (Zgg _) (by unfold maxLen;omega) (by omega) Bq4.out.lt ?_;intro vq16 uq10 hwq11 hgq12 hlq13;obtain⟨Aq14,cq15,rfl⟩:=Zac hwq11;have Bq17:=Zh (Bq4.out.grown hgq12 (λe=>by have:=(Rq5.out.lt xb e.symm).1;omega));have Wq18:=Zh (Wq6.out.grown hgq12 Wq6.out.size (λg hg=>by have:=(Rq5.out.lt g hg).1;have:=HXB.out;omega));have Hhwq11:=Zh hwq11;clear hwq11 hgq12 hlq13;have Sq19:=HSS.out _ Wq18.out;refine hK.out _ _ (HSS.out _ Wq18.out) (λht21=>?_);clear hK K;(try simp only[Act.put,lz3,lz4,lz5]);refine tk 17 ?_;(try simp only[Act.put,lz3,lz4,lz5]);refine rd1 18 ?st23;case st23=>
          intro K hK;have yq20:=Bq17.out.cell 1;have zq21:=Bq17.out.frozen 1;simp only[lz0,lz1,lz2]at yq20;go_simp;clear yq20 zq21;have Bq22:=Zh (Bq17.out.set_ 1 (.slice Aq14 (s.length+1) cq15));have Rq23:=Zh (show(uq10.setCell ⟨xb,1,none⟩ (.slice Aq14 (s.length+1) cq15)).ownsRow (xb+1) 64 2 (.slice Aq14 (s.length+1) cq15) (s.length+1) _ from Zab Hhwq11.out (λg hg=>Yb5 uq10 ⟨xb,1,none⟩ (.slice Aq14 (s.length+1) cq15) g (by have:=(Hhwq11.out.lt g hg).1;simp only;omega)));have Wq24:=Zh (Wq18.out.setCell (p:=⟨xb,1,none⟩) (by have:=HXB.out;simp only;omega) (.slice Aq14 (s.length+1) cq15));refine hK.out _ _ (HSS.out _ Wq24.out) (λht24=>?_);clear hK K;(try simp only[Act.put,lz3,lz4,lz5]);refine Yb9 (by kernel_rfl) ?_ _;go_wp2;go_roundw;case rel=>
           refine⟨q+1,_,_,by omega,by go_num,HNX.out.symm,by simpa using Bq22.out,?_,Wq24.out⟩;have hr:=Rq23.out;rw[Ybg,Yaq];simpa using hr
          case measure=>simp[intOf];omega
      case st16=>
       intro K hK;go_simp;obtain⟨uq25,huq30⟩:=Ze (u0.alloc (.cells #[.int .i64 q,.int .i64 z] 64));have Nq26:Hid (Blk uq25 u0.heap.size 64 #[.int .i64 q,.int .i64 z]):=Zh (by rw[huq30];exact Blk.new _ _ _);rw[<- huq30];have hbq31:Below u0.heap.size u0 uq25:=by rw[huq30];exact(Ybm _ u0).alloc (Yar _) _
       have Bq27:=Zh (HB0.out.below hbq31 HB0.out.lt);have Rq28:=Zh (Zab HR0.out (λg hg=>hbq31.block g (HR0.out.lt g hg).2));have Wq29:=Zh (Zaa HW0.out hbq31 HW0.out.size);clear huq30 hbq31;have Sq32:=HSS.out _ Wq29.out;refine hK.out _ _ (HSS.out _ Wq29.out) (λht25=>?_);clear hK K;(try simp only[Act.put,lz3,lz4,lz5]);refine rd1 1 ?st26;case st26=>
        intro K hK;have yq33:=Bq27.out.cell 1;simp only[lz0,lz1,lz2]at yq33;go_simp;clear yq33;refine hK.out _ _ (HSS.out _ Wq29.out) (λht27=>?_);clear hK K;(try simp only[Act.put,lz3,lz4,lz5]);refine rd1 16 ?st28;case st28=>
         intro K hK;refine Zar _ rfl (.tmp 54) (.tmp 68) 60 rfl (xb+1) 64 i1 _ 2 16 Tryz.underlying60 hi1 hy0 hy1 hy2 rfl (by decide) _ s.length _ rfl Rq28.out ⟨u0.heap.size,0,none⟩ 1 1 (Zat ((q:Int),z)) rfl rfl (Zda (p:=((q:Int),.int .i64 z)) Nq26.out) (Zgg _) (by unfold maxLen;omega) (by omega) Bq27.out.lt ?_;intro vq40 uq34 hwq35 hgq36 hlq37;obtain⟨Aq38,cq39,rfl⟩:=Zac hwq35;have Bq41:=Zh (Bq27.out.grown hgq36 (λe=>by have:=(Rq28.out.lt xb e.symm).1;omega));have Wq42:=Zh (Wq29.out.grown hgq36 Wq29.out.size (λg hg=>by have:=(Rq28.out.lt g hg).1;have:=HXB.out;omega));have Hhwq35:=Zh hwq35;clear hwq35 hgq36 hlq37;have Sq43:=HSS.out _ Wq42.out;refine hK.out _ _ (HSS.out _ Wq42.out) (λht29=>?_);clear hK K;(try simp only[Act.put,lz3,lz4,lz5]);refine tk 17 ?_;(try simp only[Act.put,lz3,lz4,lz5]);refine rd1 18 ?st31;case st31=>
          intro K hK;have yq44:=Bq41.out.cell 1;have zq45:=Bq41.out.frozen 1;simp only[lz0,lz1,lz2]at yq44;go_simp;clear yq44 zq45;have Bq46:=Zh (Bq41.out.set_ 1 (.slice Aq38 (s.length+1) cq39));have Rq47:=Zh (show(uq34.setCell ⟨xb,1,none⟩ (.slice Aq38 (s.length+1) cq39)).ownsRow (xb+1) 64 2 (.slice Aq38 (s.length+1) cq39) (s.length+1) _ from Zab Hhwq35.out (λg hg=>Yb5 uq34 ⟨xb,1,none⟩ (.slice Aq38 (s.length+1) cq39) g (by have:=(Hhwq35.out.lt g hg).1;simp only;omega)));have Wq48:=Zh (Wq42.out.setCell (p:=⟨xb,1,none⟩) (by have:=HXB.out;simp only;omega) (.slice Aq38 (s.length+1) cq39));refine hK.out _ _ (HSS.out _ Wq48.out) (λht32=>?_);clear hK K;(try simp only[Act.put,lz3,lz4,lz5]);refine Yb9 (by kernel_rfl) ?_ _;go_wp2;go_roundw;case rel=>
           refine⟨q+1,_,_,by omega,by go_num,HNX.out.symm,by simpa using Bq46.out,?_,Wq48.out⟩;have hr:=Rq47.out;rw[Ybg,Yaq];simpa using hr
          case measure=>simp[intOf];omega
     ·have d1:(y==t)=false:=by simpa using hyt
      have HNX:Hid (Zbu x t (q+1)=s):=Zh (by rw[Zbu,Yaf (by rw[HGT.out];exact hyt),<- HSE.out]);clear hyt;go_wp2;go_roundw;case rel=>exact⟨q+1,_,s,by omega,by go_num,HNX.out.symm,HBI.out,HRI.out,HWI.out⟩
      case measure=>simp[intOf];omega
    ·obtain rfl:q=m:=by omega
     have hlz:¬ ((q:Int)<(q:Int)):=by omega
     have HMS:Hid (s=Zdw x t):=Zh (by rw[HSE.out];unfold Zdw;rw[<- HM.out]);by_cases hs0:0<s.length
     ·have d1:decide ((0:Int)<(s.length:Int))=true:=Yb0 (by omega)
      have c0x:=HBI.out.cell 0;simp only[lz0,lz1,lz2]at c0x;obtain⟨R,hR0,hR1,hR2⟩:=HO.out.below (HWI.out.alloc HWI.out.size (.cells #[.int .i64 xd,.slice Av s.length cv] 62));have hfs:∀ p∈s,Zaj p.1/\Zaj p.2:=λp hp=>by
       rw[HSE.out]at hp;obtain⟨k,h1,h2,rfl⟩:=spotUp_mem.1 hp;have h3:x.S[k]?=some (x.S.getD k 0):=by
        have h4:=HJ.out.len;rw[Yaw,Yax (by omega)];rfl
       have h5:=HJ.out.2.2.1 _ (Ybz h3);unfold Zaj;simp only;omega
      have hpin:=(PairsIn.ownTwo HRI.out rfl (by unfold maxLen;omega) hfs).below ((Ybm wr.heap.size wr).alloc (Yar _) (.cells #[.int .i64 xd,.slice Av s.length cv] 62));have hux:∀ ad,Av=some ad->ad.block<wr.heap.size/\xb+1<=ad.block:=λad e=>by have:=HRI.out.lt ad.block (by rw[e];rfl);omega
      have hul:∀ g,Value.ownBlock (.slice Al l.length cl)=some g->g<wo.heap.size:=λg e=>by
       obtain⟨R',_,h1,_⟩:=HO.out;exact(h1.lt g e).2
      have HPA:Hid (PostAt (wr.alloc (.cells #[.int .i64 xd,.slice Av s.length cv] 62)) (xd,s) (xd,.slice Av s.length cv) λi=>w.heap.size<=i/\Value.ownBlock (.slice Al l.length cl)≠some i):=Zh ⟨rfl,hfx,Av,cv,rfl,Zbi HRI.out,hpin,λad e _=>⟨by have:=hux ad e;simp;omega,by have h1:=hux ad e;have h2:=HXB.out;omega,λe2=>by have h1:=hux ad e;have h2:=hul _ e2;have h3:=HXB.out;omega⟩⟩;have HR1:=Zh hR1;have HR2:=Zh hR2;have HBF:=Zh (Zaa HBW.out HWI.out hbz);have HFN:Hid (l++[(xd,s)]=Zb5 L t (i+1)):=Zh (by
       rw[HPU.out];unfold Zed;rw[<- HMS.out,Yag hs0,HXD.out])
      clear hR1 hR2 hfs hpin hux hul;go_wp2_with (at_builtin;refine wpList_append_own_at _ rfl (.tmp 75) (.tmp 77) 56 rfl w.heap.size 62 i2 _ 2 32 Tryz.underlying56 hi2 hx0 hx1 hx2 rfl (by decide) _ l.length _ rfl HR1.out ⟨wr.heap.size,0,none⟩ 1 1 (Zan (xd,.slice Av s.length cv)) rfl rfl (Zda (p:=(xd,.slice Av s.length cv)) (Blk.new wr 62 #[.int .i64 xd,.slice Av s.length cv])) (Zfl _ _ _ _) (by unfold maxLen;omega) (by omega) (by have:=HBF.out.size;simp;omega) ?_;intro v5 w5 hown hgrow _ hloc;have HO5:=Zh (PostsO.push hR0 HR2.out HPA.out hown hgrow (hloc.imp id λe=>⟨_,e,Yar _⟩));have HB5:=Zh ((HBF.out.alloc HBF.out.size _).grown hgrow (by have:=HBF.out.size;simp;omega) (λg hg=>(HR1.out.lt g hg).1));clear hown hgrow hloc);go_roundw;case rel=>exact⟨i+1,_,by omega,by go_num,HFN.out,HO5.out,HB5.out⟩
      case measure=>simp[intOf];omega
     ·have d1:decide ((0:Int)<(s.length:Int))=false:=Ybt (by omega)
      have HFN:Hid (l=Zb5 L t (i+1)):=Zh (by
       rw[HPU.out];unfold Zed;rw[<- HMS.out,Yaf hs0,List.append_nil])
      have HOF:=Zh (HO.out.below HWI.out);have HBF:=Zh (Zaa HBW.out HWI.out hbz);go_wp2;go_roundw;case rel=>exact⟨i+1,l,by omega,by go_num,HFN.out,HOF.out,HBF.out⟩
      case measure=>simp[intOf];omega
  ·obtain rfl:i=n:=by omega
   have hlz:¬ ((i:Int)<(i:Int)):=by omega
   have HFN:Hid (Zax L t=l):=Zh (by unfold Zax;rw[HLE.out,HN.out]);go_wp2;go_ret;rw[HFN.out];exact⟨_,rfl,HO.out,HBW.out⟩
theorem Zif (w:World) (v:Nat) (most:Int) (hm1:-9223372036854775808<=most) (hm2:most<=9223372036854775807):
  Calls Tryz.prog 149 #[.int .u64 v,.int .i64 most] w λe w'=>e=.returned (.bool (decide (most<0\/most<(v:Int))))/\w'=w:=by
 by_cases hm:most<0
 ·have d1:decide (most<0)=true:=by simpa using hm
  rw[Yb0 (Or.inl hm)];go_enter Tryz.func149,Tryz.ntmps149;go_wp2;go_ret;exact⟨rfl,rfl⟩
 ·have d1:decide (most<0)=false:=by simpa using hm
  have hwm:IntKind.u64.wrap most=most:=by rw[Yby];omega
  have e:decide (most<0\/most<(v:Int))=decide (most<(v:Int)):=by
   by_cases h:most<(v:Int)<;>simp[h,hm]
  rw[e];clear e hm;go_enter Tryz.func149,Tryz.ntmps149;go_wp2;go_ret;exact⟨rfl,rfl⟩
end
section
structure PR where
 left:List UInt8
 last:Int
 bad:Bool
def PR.fail (s:PR):PR:=⟨[],s.last,true⟩
def rNum (s:PR) (most:Nat):Nat×PR:=if (getL s.left).2.2≠0\/most<(getL s.left).1 then (0,s.fail) else ((getL s.left).1,⟨s.left.drop (getL s.left).2.1,s.last,s.bad⟩)
def Zde (s:PR):List Int×PR:=if (getR s.left 4096).2.2≠0 then ([],s.fail) else ((getR s.left 4096).1,⟨s.left.drop (getR s.left 4096).2.1,s.last,s.bad⟩)
def rDoc (s:PR):Int×PR:=(s.last+1+(rNum s 4294967296).1,if 4294967296<s.last+1+(rNum s 4294967296).1 then (rNum s 4294967296).2.fail else (rNum s 4294967296).2)
def Zpv (d:Int) (p a:List Int×PR):List Pst×PR:=if p.1.length=0\/p.1.length≠a.1.length then ([],a.2.fail) else ([(d,p.1.zip a.1)],⟨a.2.left,d,a.2.bad⟩)
def Zd8 (s:PR):List Pst×PR:=Zpv (rDoc s).1 (Zde (rDoc s).2) (Zde (Zde (rDoc s).2).2)
def rEnd (d:Int) (z:Nat×PR) (q:List Pst×PR):List Pst×PR:=(q.1,if q.2.last≠d\/(q.2.left.length:Int)≠(z.2.left.length:Int)-z.1 then q.2.fail else q.2)
def Ze7 (inside:PR->List Pst×PR) (s:PR):List Pst×PR:=rEnd (rDoc s).1 (rNum (rDoc s).2 (rDoc s).2.left.length) (inside (rNum (rDoc s).2 (rDoc s).2.left.length).2)
def runP (f:Nat->PR->List Pst×PR) (a st:Nat):Nat->PR->List Pst×PR
 | 0,s=>([],s)
 | k+1,s=>((runP f a st k s).1++(f (a+k*st) (runP f a st k s).2).1,(f (a+k*st) (runP f a st k s).2).2)
def run0 (a t:Nat) (s:PR):List Pst×PR:=runP (λ_=>Zd8) a 1 (t-a) s
def run1 (a t:Nat) (s:PR):List Pst×PR:=runP (λi=>Ze7 (run0 i (min (i+4) t))) a 4 ((t-a+3)/4) s
def run2 (a t:Nat) (s:PR):List Pst×PR:=runP (λi=>Ze7 (run1 i (min (i+16) t))) a 16 ((t-a+15)/16) s
def Zdn (b:List UInt8):PR:=⟨b,-1,false⟩
def rAll (b:List UInt8):List Pst×PR:=run2 0 (rNum (Zdn b) 4096).1 (rNum (Zdn b) 4096).2
def getM (b:List UInt8):List Pst×Int:=if (rAll b).2.bad=true\/0<(rAll b).2.left.length then ([],3) else ((rAll b).1,0)
def sl (l:List Pst) (x y:Nat):List Pst:=(l.drop x).take (y-x)
theorem Znd (l:List Pst) (x:Nat):sl l x x=[]:=by simp[sl]
theorem Qck (l:List Pst) {x y z:Nat} (h1:x<=y) (h2:y<=z):sl l x y++sl l y z=sl l x z:=by
 unfold sl;have e:l.drop y=(l.drop x).drop (y-x):=by rw[Ya1];congr 1;omega
 rw[e,show z-x=(y-x)+(z-y) by omega,List.take_add]
theorem Qcm {l:List Pst} {x:Nat} (h:x<l.length):sl l x (x+1)=[pAt l x]:=by
 unfold sl;rw[show x+1-x=1 by omega,Ycg h,Yaj,List.take_zero];unfold pAt;rw[Yaw,Yax h];rfl
theorem Qex (l:List Pst):sl l 0 l.length=l:=by simp[sl]
theorem Zfb (l:List Pst) (i:Nat):Zaq l (i+1)=(pAt l i).1:=by unfold Zaq;rw[Yaf (by omega),Ybk]
def V1 (p:Int) (x:Pst):Prop:=p<x.1/\x.1<=4294967296/\0<x.2.length/\x.2.length<=4096/\Za4 (-1) (poss x.2)=true/\Za4 (-1) (atss x.2)=true/\∀ s∈x.2,s.1<=9223372036854775807/\s.2<=9223372036854775807
def Zk8 (l:List Pst) (i:Nat) (m:List Pst):Prop:=∀ j,j<m.length->pAt l (i+j)=pAt m j
theorem Zq5 {l a b:List Pst} {i:Nat} (h:Zk8 l i (a++b)):Zk8 l i a:=λj hj=>by
 have:=h j (by rw[Yaq];omega)
 rwa [Qbu hj]at this
theorem Zqe {l a b:List Pst} {i:Nat} (h:Zk8 l i (a++b)):Zk8 l (i+a.length) b:=λj hj=>by
 have:=h (a.length+j) (by rw[Yaq];omega)
 rw[Zx7 (by omega),show a.length+j-a.length=j by omega]at this
 rwa [Nat.add_assoc]
theorem Zh3 (f:Nat->PR->List Pst×PR) (l:List Pst) (F:Nat->List UInt8) (a st t:Nat) (hst:0<st) (hat:a<=t)
  (hstep:∀ i,a<=i->i<t->(i-a) % st=0->∀ s r,s.bad=false->s.last=Zaq l i->s.left=cat F i (min (i+st) t-i)++r->f i s=(sl l i (min (i+st) t),⟨r,Zaq l (min (i+st) t),false⟩)):
  ∀ k,a+k*st<t+st->∀ s r,s.bad=false->s.last=Zaq l a->s.left=cat F a (min (a+k*st) t-a)++r->runP f a st k s=(sl l a (min (a+k*st) t),⟨r,Zaq l (min (a+k*st) t),false⟩)
 | 0,hk,s,r,h1,h2,h3=>by
  obtain⟨left,last,bad⟩:=s;simp only[Nat.zero_mul,Nat.add_zero,Yb7 hat,Ybq,cat,Yad]at h1 h2 h3 ⊢;rw[runP,Znd,h1,h2,h3]
 | k+1,hk,s,r,h1,h2,h3=>by
  have e:(k+1)*st=k*st+st:=Nat.succ_mul k st;obtain⟨i,hi⟩:=Ze (a+k*st);have hia:(i-a) % st=0:=by rw[hi,Ybr];exact Nat.mul_mod_left k st
  have e2:a+(k+1)*st=i+st:=by omega
  have hit:i<t:=by omega
  have hm:min (a+k*st) t=i:=by omega
  obtain⟨E,hE⟩:=Ze (min (i+st) t);rw[e2,<- hE]at h3 ⊢;have hiE:i<=E/\a<=i:=by omega
  have h4:cat F a (E-a)=cat F a (i-a)++cat F i (E-i):=by
   have:=Zhp F a (i-a) (E-i)
   rwa [show i-a+(E-i)=E-a by omega,show a+(i-a)=i by omega]at this
  rw[h4,Yao]at h3;have ih:=Zh3 f l F a st t hst hat hstep k (by omega) s (cat F i (E-i)++r) h1 h2 (by rw[hm];exact h3);rw[hm]at ih;rw[runP,ih,<- hi];simp only;rw[hstep i hiE.2 hit hia ⟨cat F i (E-i)++r,Zaq l i,false⟩ r rfl rfl (by rw[<- hE]),<- hE];simp only;rw[Qck l hiE.2 hiE.1]
theorem Zgm (f:Nat->PR->List Pst×PR) (F:List Pst->Nat->List UInt8) (a st t:Nat) (hst:0<st) (hat:a<=t) (Q:List Pst->Prop)
  (hstep:∀ i,a<=i->i<t->(i-a) % st=0->∀ s,(f i s).2.bad=false->s.bad=false/\(f i s).1.length=min (i+st) t-i/\∀ l,Q l->t<=l.length->Zk8 l i (f i s).1->Zaq l i=s.last->
   s.left=cat (F l) i (min (i+st) t-i)++(f i s).2.left/\(f i s).2.last=Zaq l (min (i+st) t)/\∀ j,i<=j->j<min (i+st) t->V1 (Zaq l j) (pAt l j)):
  ∀ k,a+k*st<t+st->∀ s,(runP f a st k s).2.bad=false->s.bad=false/\(runP f a st k s).1.length=min (a+k*st) t-a/\∀ l,Q l->t<=l.length->Zk8 l a (runP f a st k s).1->Zaq l a=s.last->
   s.left=cat (F l) a (min (a+k*st) t-a)++(runP f a st k s).2.left/\(runP f a st k s).2.last=Zaq l (min (a+k*st) t)/\∀ j,a<=j->j<min (a+k*st) t->V1 (Zaq l j) (pAt l j)
 | 0,hk,s,h=>by
  simp only[runP,Nat.zero_mul,Nat.add_zero,Yb7 hat,Ybq,cat,Yad,List.length_nil]at h ⊢;exact⟨h,trivial,λl _ _ _ e=>⟨trivial,e.symm,λj h1 h2=>by omega⟩⟩
 | k+1,hk,s,h=>by
  have e:(k+1)*st=k*st+st:=Nat.succ_mul k st;obtain⟨i,hi⟩:=Ze (a+k*st);have hia:(i-a) % st=0:=by rw[hi,Ybr];exact Nat.mul_mod_left k st
  have e2:a+(k+1)*st=i+st:=by omega
  have hit:i<t:=by omega
  have hm:min (a+k*st) t=i:=by omega
  obtain⟨E,hE⟩:=Ze (min (i+st) t);rw[e2,<- hE];have hiE:i<=E/\a<=i:=by omega
  rw[runP,<- hi]at h ⊢;simp only at h ⊢;obtain⟨q1,q2,q3⟩:=hstep i hiE.2 hit hia _ h;obtain⟨p1,p2,p3⟩:=Zgm f F a st t hst hat Q hstep k (by omega) s q1;rw[hm]at p2 p3;rw[<- hE]at q2 q3;refine⟨p1,by rw[Yaq,p2,q2];omega,λl hQ htl hag hla=>?_⟩;obtain⟨p4,p5,p6⟩:=p3 l hQ htl (Zq5 hag) hla;have hag2:=Zqe hag;rw[p2,show a+(i-a)=i by omega]at hag2;obtain⟨q4,q5,q6⟩:=q3 l hQ htl hag2 p5.symm;have h4:cat (F l) a (E-a)=cat (F l) a (i-a)++cat (F l) i (E-i):=by
   have:=Zhp (F l) a (i-a) (E-i)
   rwa [show i-a+(E-i)=E-a by omega,show a+(i-a)=i by omega]at this
  refine⟨by rw[h4,p4,q4,Yao],q5,λj h1 h2=>?_⟩;rcases Yab j i with h3|h3
  ·exact p6 j h1 h3
  ·exact q6 j h3 h2
theorem Zuj {b:List UInt8} (h:(getL b).2.2=0):b=putL (getL b).1++b.drop (getL b).2.1:=by
 obtain⟨h1,h2,h3,h4,h5⟩:=Zby (l:=b) (v:=(getL b).1) (k:=(getL b).2.1) (by rw[<- h]);rw[<- h4,Yau]
theorem Zll {s:PR} {most:Nat} (h:(rNum s most).2.bad=false):s.bad=false/\s.left=putL (rNum s most).1++(rNum s most).2.left/\(rNum s most).1<=most/\(rNum s most).2.last=s.last:=by
 unfold rNum at h ⊢;split at h
 ·cases h
 ·rename_i h1
  have h1':(getL s.left).2.2=0:=by
   rcases Decidable.em ((getL s.left).2.2=0)with h2|h2
   ·exact h2
   ·exact absurd (.inl h2) h1
  rw[Yaf h1];exact⟨h,Zuj h1',by
   rcases Yab most (getL s.left).1 with h2|h2
   ·exact absurd (.inr h2) h1
   ·exact h2,rfl⟩
theorem Znu {s:PR} {most n:Nat} {r:List UInt8} (hn:n<=most) (h64:n<2 ^ 64) (hs:s.left=putL n++r):rNum s most=(n,⟨r,s.last,s.bad⟩):=by
 unfold rNum;rw[hs,Zcz h64,Yaf (by simp;omega)];simp only;rw[Zeb]
theorem Zmg {s:PR} (h:(Zde s).2.bad=false):s.bad=false/\s.left=putR (Zde s).1++(Zde s).2.left/\(Zde s).1.length<=4096/\Za4 (-1) (Zde s).1=true/\(∀ x∈(Zde s).1,x<=9223372036854775807)/\(Zde s).2.last=s.last:=by
 unfold Zde at h ⊢;split at h
 ·cases h
 ·rename_i h1
  have h1':(getR s.left 4096).2.2=0:=by
   rcases Decidable.em ((getR s.left 4096).2.2=0)with h2|h2
   ·exact h2
   ·exact absurd h2 h1
  rw[Yaf h1];obtain⟨g1,g2,g3,g4,g5⟩:=Zs9 (b:=s.left) (most:=4096) (l:=(getR s.left 4096).1) (k:=(getR s.left 4096).2.1) (by rw[<- h1']);exact⟨h,by simp only;rw[<- g4,Yau],by simp only;omega,g1,g2,rfl⟩
theorem Znx {s:PR} {l:List Int} {r:List UInt8} (hl:l.length<=4096) (hr:Za4 (-1) l=true) (hx:∀ x∈l,x<=9223372036854775807) (hs:s.left=putR l++r):Zde s=(l,⟨r,s.last,s.bad⟩):=by
 unfold Zde;rw[hs,Zjx l (by omega) hr hx r 4096 (by omega),Yaf (by simp)];simp only;rw[Ya3]
theorem Zpk {s:PR} (h:(rDoc s).2.bad=false):s.bad=false/\∃ n:Nat,(rDoc s).1=s.last+1+n/\s.left=putL n++(rDoc s).2.left/\(rDoc s).1<=4294967296/\(rDoc s).2.last=s.last:=by
 unfold rDoc at h ⊢;simp only at h ⊢;split at h
 ·cases h
 ·rename_i h1
  rw[Yaf h1];obtain⟨q1,q2,q3,q4⟩:=Zll h;exact⟨q1,_,rfl,q2,by omega,q4⟩
theorem Zs4 {s:PR} {d:Int} {r:List UInt8} (h0:-1<=s.last) (h1:s.last<d) (h2:d<=4294967296) (hs:s.left=putL (d-s.last-1).toNat++r):rDoc s=(d,⟨r,s.last,s.bad⟩):=by
 unfold rDoc;rw[Znu (by omega) (by omega) hs];simp only;rw[show s.last+1+((d-s.last-1).toNat:Int)=d by omega,Yaf (by omega)]
theorem Zt6 {s:PR} (h:(Zd8 s).2.bad=false):s.bad=false/\∃ x,(Zd8 s).1=[x]/\V1 s.last x/\s.left=putL (x.1-s.last-1).toNat++(putR (poss x.2)++putR (atss x.2))++(Zd8 s).2.left/\(Zd8 s).2.last=x.1:=by
 unfold Zd8 Zpv at h ⊢;split at h
 ·cases h
 ·rename_i h1
  rw[Yaf h1];simp only at h ⊢;obtain⟨a1,a2,a3,a4,a5,a6⟩:=Zmg h;obtain⟨p1,p2,p3,p4,p5,p6⟩:=Zmg a1;obtain⟨d1,n,d2,d3,d4,d5⟩:=Zpk p1;obtain⟨P,hP⟩:=Ze ((Zde (rDoc s).2).1);obtain⟨A,hA⟩:=Ze ((Zde (Zde (rDoc s).2).2).1);rw[<- hP]at h1 p2 p3 p4 p5 ⊢;rw[<- hA]at h1 a2 a3 a4 a5 ⊢;have hlen:P.length=A.length:=by
   rcases Decidable.em (P.length=A.length)with h2|h2
   ·exact h2
   ·exact absurd (.inr h2) h1
  have hpos:0<P.length:=by
   rcases Yai P.length with h2|h2
   ·exact absurd (.inl h2) h1
   ·exact h2
  have e1:poss (P.zip A)=P:=by unfold poss;rw[List.map_fst_zip];omega
  have e2:atss (P.zip A)=A:=by unfold atss;rw[List.map_snd_zip];omega
  refine⟨d1,_,rfl,⟨by simp only;omega,d4,by simp only;rw[List.length_zip];omega,by simp only;rw[List.length_zip];omega,by rw[e1];exact p4,by rw[e2];exact a4,λy hy=>⟨p5 _ (Zn0 hy).1,a5 _ (Zn0 hy).2⟩⟩,?_,rfl⟩;simp only;rw[e1,e2,show((rDoc s).1-s.last-1).toNat=n by omega,d3,p2,a2];simp only[Yao]
theorem Zxl {l:List Pst} (hl:ValidP l) {i:Nat} (hi:i<l.length) {s:PR} {r:List UInt8} (hb:s.bad=false) (h1:s.last=Zaq l i) (h2:s.left=Zbh l i++r):Zd8 s=([pAt l i],⟨r,(pAt l i).1,false⟩):=by
 have q1:=hl.docs _ (Zay hi);have w1:=hl.last (Nat.le_of_lt hi);have u1:=hl.up i hi;have f1:=Zhv (hl.fit _ (Zay hi));have n1:=Zcx (pAt l i).2;have s1:=hl.spots _ (Zay hi);have s0:=hl.some _ (Zay hi);unfold Zbh at h2;rw[<- h1]at h2 w1 u1;simp only[Yao]at h2;have e1:=Zs4 (s:=s) (d:=(pAt l i).1) w1.1 u1 q1.2 h2;unfold Zd8;rw[e1];simp only;have e2:=Znx (s:=⟨putR (poss (pAt l i).2)++(putR (atss (pAt l i).2)++r),s.last,s.bad⟩) (by omega) (hl.pos _ (Zay hi)) f1.1 rfl;rw[e2];simp only;have e3:=Znx (s:=⟨putR (atss (pAt l i).2)++r,s.last,s.bad⟩) (by omega) (hl.at_ _ (Zay hi)) f1.2 rfl;rw[e3];unfold Zpv;rw[Yaf (by simp only;omega)];simp only;rw[Zk4,hb]
def Zkp (R:PR->List Pst×PR) (F:List Pst->Nat->List UInt8) (Q:List Pst->Prop) (i E:Nat):Prop:=
 ∀ s,(R s).2.bad=false->s.bad=false/\(R s).1.length=E-i/\∀ l,Q l->E<=l.length->Zk8 l i (R s).1->Zaq l i=s.last->s.left=cat (F l) i (E-i)++(R s).2.left/\(R s).2.last=Zaq l E/\∀ j,i<=j->j<E->V1 (Zaq l j) (pAt l j)
theorem Zmi {inside:PR->List Pst×PR} {F F':List Pst->Nat->List UInt8} {Q Q':List Pst->Prop} {i E:Nat} (hiE:i<E) (hQ:∀ l,Q' l->Q l) (hcat:∀ l,Q' l->cat (F' l) i (E-i)=Zdl l i E (cat (F l) i (E-i))++cat (F l) i (E-i))
  (hin:Zkp inside F Q i E):Zkp (Ze7 inside) F' Q' i E:=by
 intro s h;unfold Ze7 rEnd at h ⊢;simp only at h ⊢;split at h
 ·cases h
 ·rename_i h1
  rw[Yaf h1];obtain⟨q1,q2,q3⟩:=hin _ h;obtain⟨z1,z2,z3,z4⟩:=Zll q1;obtain⟨d1,n,d2,d3,d4,d5⟩:=Zpk z1;refine⟨d1,q2,λl hl htl hag hla=>?_⟩;obtain⟨p1,p2,p3⟩:=q3 l (hQ l hl) htl hag (by rw[z4,d5];exact hla);refine⟨?_,p2,p3⟩;obtain⟨z,hz⟩:=Ze (rNum (rDoc s).2 (rDoc s).2.left.length);rw[<- hz]at h1 q1 q2 q3 z2 z3 z4 p1 p2 h ⊢;obtain⟨q,hq⟩:=Ze (inside z.2);rw[<- hq]at h1 p1 p2 h ⊢;have e1:q.2.last=(rDoc s).1:=by
   rcases Decidable.em (q.2.last=(rDoc s).1)with h2|h2
   ·exact h2
   ·exact absurd (.inl h2) h1
  have e2:(q.2.left.length:Int)=(z.2.left.length:Int)-z.1:=by
   rcases Decidable.em ((q.2.left.length:Int)=(z.2.left.length:Int)-z.1)with h2|h2
   ·exact h2
   ·exact absurd (.inr h2) h1
  have e3:=congrArg List.length p1;rw[Yaq]at e3;have e4:z.1=(cat (F l) i (E-i)).length:=by omega
  have e5:n=((pAt l (E-1)).1-Zaq l i-1).toNat:=by
   have e6:Zaq l E=(pAt l (E-1)).1:=by unfold Zaq;rw[Yaf (by omega)]
   omega
  rw[hcat l hl,Zdl,<- e4,<- e5,d3,z2,p1];simp only[Yao]
theorem Zoc {inside:PR->List Pst×PR} {l:List Pst} (hV:ValidP l) {F F':Nat->List UInt8} {i E:Nat} (hiE:i<E) (hE:E<=l.length) (hcat:cat F' i (E-i)=Zdl l i E (cat F i (E-i))++cat F i (E-i)) (hb:(cat F i (E-i)).length<2 ^ 64)
  (hin:∀ s r,s.bad=false->s.last=Zaq l i->s.left=cat F i (E-i)++r->inside s=(sl l i E,⟨r,Zaq l E,false⟩)):
  ∀ s r,s.bad=false->s.last=Zaq l i->s.left=cat F' i (E-i)++r->Ze7 inside s=(sl l i E,⟨r,Zaq l E,false⟩):=by
 intro s r h1 h2 h3;have w1:=hV.last (show i<=l.length by omega);have w2:=hV.last_lt hiE hE;have w3:=(hV.docs _ (Zay (show E-1<l.length by omega))).2;have e6:Zaq l E=(pAt l (E-1)).1:=by unfold Zaq;rw[Yaf (by omega)]
 rw[hcat,Zdl]at h3;simp only[Yao]at h3;rw[<- h2]at h3 w1 w2;obtain⟨B,hB⟩:=Ze (cat F i (E-i));rw[<- hB]at h3 hb hin;have g1:=Zs4 (s:=s) w1.1 w2 w3 h3;unfold Ze7 rEnd;rw[g1];simp only;rw[Znu (n:=B.length) (r:=B++r) (by rw[Yaq,Yaq];omega) hb rfl];simp only;rw[hin ⟨B++r,s.last,s.bad⟩ r h1 h2 rfl];simp only;rw[Yaf];rw[e6,Yaq];omega
theorem Zvo (a t:Nat) (hat:a<=t):Zkp (run0 a t) Zbh (λ_=>True) a t:=by
 intro s h;have:=Zgm (λ_=>Zd8) Zbh a 1 t (by omega) hat (λ_=>True) (λi h1 h2 _ s h=>?_) (t-a) (by omega) s h
 ·rw[show min (a+(t-a)*1) t=t by omega]at this
  exact this
 ·obtain⟨q1,x,q2,q3,q4,q5⟩:=Zt6 h
  have e:min (i+1) t=i+1:=by omega
  rw[e];refine⟨q1,by rw[q2];simp,λl _ htl hag hla=>?_⟩;rw[q2]at hag;have hx:pAt l i=x:=hag 0 (by simp);rw[show i+1-i=0+1 by omega,cat,cat,Yad,Nat.add_zero];refine⟨?_,?_,λj h1 h2=>?_⟩
  ·rw[q4]
   unfold Zbh;rw[hx,hla]
  ·rw[q5,Zfb,hx]
  ·obtain rfl:j=i:=by omega
   rw[hx,hla];exact q3
theorem Zyy {l:List Pst} (hV:ValidP l) (a t:Nat) (hat:a<=t) (ht:t<=l.length) (s:PR) (r:List UInt8) (h1:s.bad=false) (h2:s.last=Zaq l a) (h3:s.left=cat (Zbh l) a (t-a)++r):run0 a t s=(sl l a t,⟨r,Zaq l t,false⟩):=by
 have e:min (a+(t-a)*1) t=t:=by omega
 have:=Zh3 (λ_=>Zd8) l (Zbh l) a 1 t (by omega) hat (λi q1 q2 _ s r p1 p2 p3=>?_) (t-a) (by omega) s r h1 h2 (by rw[e];exact h3)
 ·rw[e]at this
  exact this
 ·have e2:min (i+1) t=i+1:=by omega
  rw[e2]at p3 ⊢;rw[show i+1-i=0+1 by omega,cat,cat,Yad,Nat.add_zero]at p3;show Zd8 s=_;rw[Zxl hV (by omega) p1 p2 p3,Qcm (by omega),Zfb]
theorem Zuf (a t:Nat) (hat:a<=t) (ha:a % 16=0) (ht16:t<=a+16):Zkp (run1 a t) linB (λl=>min l.length (a+16)=t) a t:=by
 intro s h;have hk:min (a+(t-a+3)/4*4) t=t:=by omega
 have:=Zgm (λi=>Ze7 (run0 i (min (i+4) t))) linB a 4 t (by omega) hat (λl=>min l.length (a+16)=t) (λi h1 h2 h4 s h=>?_) ((t-a+3)/4) (by omega) s h
 ·rw[hk]at this
  exact this
 ·obtain⟨E,hE⟩:=Ze (min (i+4) t)
  rw[<- hE]at h ⊢;have hS:=Zmi (inside:=run0 i E) (F:=Zbh) (F':=linB) (Q:=λ_=>True) (Q':=λl=>min l.length (a+16)=t) (i:=i) (E:=E) (by omega) (λ_ _=>trivial) (λl hl=>?_) (Zvo i E (by omega)) s h
  ·exact⟨hS.1,hS.2.1,λl hl htl=>hS.2.2 l hl (by omega)⟩
  ·rw[Zh1 l (by omega) (by omega) (by omega),Zfy,show min l.length (i+4)=E by omega]
theorem Zzg {l:List Pst} (hV:ValidP l) (a t:Nat) (hat:a<=t) (ha:a % 16=0) (ht:t=min l.length (a+16)) (s:PR) (r:List UInt8) (h1:s.bad=false) (h2:s.last=Zaq l a) (h3:s.left=cat (linB l) a (t-a)++r):run1 a t s=(sl l a t,⟨r,Zaq l t,false⟩):=by
 have hf:=hV.few;have e:min (a+(t-a+3)/4*4) t=t:=by omega
 have:=Zh3 (λi=>Ze7 (run0 i (min (i+4) t))) l (linB l) a 4 t (by omega) hat (λi q1 q2 q4 s r p1 p2 p3=>?_) ((t-a+3)/4) (by omega) s r h1 h2 (by rw[e];exact h3)
 ·rw[e]at this
  exact this
 ·obtain⟨E,hE⟩:=Ze (min (i+4) t)
  rw[<- hE]at p3 ⊢;have hu:=Zd1 hV (i:=i) (k:=E-i) (by omega);have:90000*(E-i)<=90000*4096:=Yca _ (by omega);exact Zoc hV (by omega) (by omega) (by rw[Zh1 l (by omega) (by omega) (by omega),Zfy,show min l.length (i+4)=E by omega]) (by omega) (λs r=>Zyy hV i E (by omega) (by omega) s r) s r p1 p2 p3
theorem Zt7 (t:Nat):Zkp (run2 0 t) lin (λl=>l.length=t) 0 t:=by
 intro s h;have hk:min (0+(t-0+15)/16*16) t=t:=by omega
 have:=Zgm (λi=>Ze7 (run1 i (min (i+16) t))) lin 0 16 t (by omega) (by omega) (λl=>l.length=t) (λi h1 h2 h4 s h=>?_) ((t-0+15)/16) (by omega) s h
 ·rw[hk]at this
  exact this
 ·obtain⟨E,hE⟩:=Ze (min (i+16) t)
  rw[<- hE]at h ⊢;have hS:=Zmi (inside:=run1 i E) (F:=linB) (F':=lin) (Q:=λl=>min l.length (i+16)=E) (Q':=λl=>l.length=t) (i:=i) (E:=E) (by omega) (λl hl=>by omega) (λl hl=>?_) (Zuf i E (by omega) (by omega) (by omega)) s h
  ·exact⟨hS.1,hS.2.1,λl hl htl=>hS.2.2 l hl (by omega)⟩
  ·rw[Zh8 l (by omega) (by omega) (by omega),Zge,show min l.length (i+16)=E by omega]
theorem Zy8 {l:List Pst} (hV:ValidP l) (t:Nat) (ht:t=l.length) (s:PR) (r:List UInt8) (h1:s.bad=false) (h2:s.last=Zaq l 0) (h3:s.left=cat (lin l) 0 t++r):run2 0 t s=(l,⟨r,Zaq l t,false⟩):=by
 have hf:=hV.few;have e:min (0+(t-0+15)/16*16) t=t:=by omega
 have:=Zh3 (λi=>Ze7 (run1 i (min (i+16) t))) l (lin l) 0 16 t (by omega) (by omega) (λi q1 q2 q4 s r p1 p2 p3=>?_) ((t-0+15)/16) (by omega) s r h1 h2 (by rw[e];exact h3)
 ·rw[e,ht,Qex,<- ht]at this
  exact this
 ·obtain⟨E,hE⟩:=Ze (min (i+16) t)
  rw[<- hE]at p3 ⊢;have hu:=Zd2 hV (i:=i) (k:=E-i) (by omega);have:90020*(E-i)<=90020*4096:=Yca _ (by omega);exact Zoc hV (by omega) (by omega) (by rw[Zh8 l (by omega) (by omega) (by omega),Zge,show min l.length (i+16)=E by omega]) (by omega) (λs r=>Zzg hV i E (by omega) (by omega) (by omega) s r) s r p1 p2 p3
theorem Qam {l:List Pst} (hf:l.length<=4096) (h:∀ j,j<l.length->V1 (Zaq l j) (pAt l j)):ValidP l:=by
 have low:∀ j,j<=l.length->-1<=Zaq l j:=by
  intro j
  induction j with
  | zero=>intro _;unfold Zaq;rw[Yag rfl];omega
  | succ j ih=>
   intro hj;have h1:=ih (by omega);have h2:=(h j (by omega)).1;rw[Zfb];omega
 have at1:∀ x∈l,∃ i,i<l.length/\pAt l i=x:=λx hx=>Zxd hx;exact {
  few:=hf
  spots:=λx hx=>by obtain⟨i,hi,rfl⟩:=at1 x hx;exact(h i hi).2.2.2.1
  some:=λx hx=>by obtain⟨i,hi,rfl⟩:=at1 x hx;exact(h i hi).2.2.1
  docs:=λx hx=>by obtain⟨i,hi,rfl⟩:=at1 x hx;exact⟨by have:=(h i hi).1;have:=low i (by omega);omega,(h i hi).2.1⟩
  up:=λi hi=>(h i hi).1
  pos:=λx hx=>by obtain⟨i,hi,rfl⟩:=at1 x hx;exact(h i hi).2.2.2.2.1
  at_:=λx hx=>by obtain⟨i,hi,rfl⟩:=at1 x hx;exact(h i hi).2.2.2.2.2.1
  fit:=λx hx=>by obtain⟨i,hi,rfl⟩:=at1 x hx;exact(h i hi).2.2.2.2.2.2 }
theorem Qef (b:List UInt8):getM b=getP b:=by
 unfold getM;by_cases hc:(rAll b).2.bad=true\/0<(rAll b).2.left.length
 ·rw[Yag hc]
  rcases Zse b with h|h
  ·exfalso
   obtain⟨h1,h2⟩:=Zh9 h;have hV:=(Zex Zm3).1 h1;obtain⟨l,hl⟩:=Ze ((getP b).1);rw[<- hl]at hV h2;have hf:=hV.few;have e1:rNum (Zdn b) 4096=(l.length,⟨cat (lin l) 0 l.length,-1,false⟩):=Znu (s:=Zdn b) (n:=l.length) hf (by omega) h2.symm;have e2:rAll b=(l,⟨[],Zaq l l.length,false⟩):=by
    unfold rAll;rw[e1];exact Zy8 hV l.length rfl _ [] rfl rfl (by simp)
   rw[e2]at hc;simp at hc
  ·exact h.symm
 ·rw[Yaf hc]
  have hb:(rAll b).2.bad=false:=by
   cases h:(rAll b).2.bad with
   | false=>rfl
   | true=>exact absurd (.inl h) hc
  have hl:(rAll b).2.left=[]:=by
   rcases Yai (rAll b).2.left.length with h|h
   ·exact Ya0 h
   ·exact absurd (.inr h) hc
  obtain⟨q1,q2,q3⟩:=Zt7 (rNum (Zdn b) 4096).1 (rNum (Zdn b) 4096).2 hb;obtain⟨n1,n2,n3,n4⟩:=Zll q1;have q8:(rAll b).1.length=(rNum (Zdn b) 4096).1:=by unfold rAll;omega
  obtain⟨q5,q6,q7⟩:=q3 (rAll b).1 q8 (by omega) (λj _=>by rw[Ya4];rfl) (by rw[n4];rfl);have hV:ValidP (rAll b).1:=Qam (by omega) λj hj=>q7 j (by omega) (by omega);have hput:putP (rAll b).1=b:=by
   have e2:(run2 0 (rNum (Zdn b) 4096).1 (rNum (Zdn b) 4096).2).2.left=[]:=hl;rw[e2,List.append_nil,Nat.sub_zero]at q5;have e3:b=putL (rNum (Zdn b) 4096).1++(rNum (Zdn b) 4096).2.left:=n2;unfold putP;rw[q8];exact((congrArg (putL (rNum (Zdn b) 4096).1++·) q5).symm.trans e3.symm)
  have:=Ztw hV
  rw[hput]at this;exact this.symm
end
section
open Go.RowKit Go.Maps Go.WideMaps
theorem Zhb (w:World) (A:Option Addr) (n c:Nat) (l:Nm) (hl:BytesIn w A n l) (hc:n<=c) (hn:n<=1099511627776) (most:Int) (hm1:-9223372036854775808<=most) (hm2:most<=9223372036854775807):
  Calls Tryz.prog 217 #[.slice A n c,.int .i64 most] w (Zi7 w (getR l most)):=by
 obtain⟨i0,hi,hz0,hz1,hz2⟩:=info_parts Zp3;have HL:=Zh hl;have hln:l.length=n:=by have:=hl.2.1.len;simpa using this
 have HLN:=Zh hln;clear hl hln;go_enter Tryz.func217,Tryz.ntmps217;go_wp2;go_step3;go_wp2_with fail;refine(Zgy w A n c l HL.out).mono ?_;rintro e w1 ⟨rfl,hw⟩;rw[hw];clear hw;unfold gotV;obtain⟨G,hG⟩:=Ze (getL l);rw[<- hG];obtain⟨many,at0',e0⟩:=G;by_cases he:e0=0
 ·subst he
  have hg:=Zby hG.symm;obtain⟨g1,g2,g3,g4,g5⟩:=hg;by_cases hm:most<0\/most<(many:Int)
  ·have hres:getR l most=([],0,2):=by
    unfold getR;rw[<- hG];simp only;rw[Yaf (by simp),Yag hm]
   have HRES:=Zh hres;have HG:=Zh hG;have hd:=Yb0 hm;clear hG hres g4;go_wp2_with fail;refine(Zif w many most hm1 hm2).mono ?_;rintro e w1 ⟨rfl,hw⟩;rw[hw,hd];clear hw hd hm;go_wp2;(try rw[Exit.noGoto_ret]);go_ret3;exact gerr HRES.out (Ybm _ _)
  have hres:getR l most=Zdf many (-1) at0' (l.drop at0') []:=by
   unfold getR;rw[<- hG];simp only;rw[Yaf (by simp),Yaf hm]
  have HRES:=Zh hres;have HG:=Zh hG;have hd:=Ybt hm;clear hG hres g4 hm;have g3n:at0'<=n:=by rw[<- HLN.out];exact g3
  go_wp2_with fail;refine(Zif w many most hm1 hm2).mono ?_;rintro e w1 ⟨rfl,hw⟩;rw[hw,hd];clear hw hd;go_wp2;go_step3;go_wp2;go_loopw [8,9,10,11,28] (λa er v s i wr=>∃ (k at_ least:Nat) (acc:List Int),k<=many/\a=.int .i64 at_/\er=.int .i64 0/\s=.int .u64 least/\i=.int .u64 k/\at_<=n/\least<=9223372036854775808/\acc.length=k/\k<at_/\
   Zdf (many-k) ((least:Int)-1) at_ (l.drop at_) acc=getR l most/\Below w.heap.size w wr/\wr.ownsRow w.heap.size 2 1 v acc.length (acc.map i64V)) (λ_ _ _ _ i _=>many-(intOf i).toNat)
  case atStart=>exact⟨0,at0',0,[],by omega,rfl,rfl,rfl,rfl,g3n,by omega,rfl,g1,by rw[HRES.out];rfl,Ybm _ _,⟨rfl,.inl ⟨rfl,rfl⟩⟩⟩
  case round=>
   obtain⟨k,at_,least,acc,hk,rfl,rfl,rfl,rfl,hat,hlast,hacc,hkat,hgr,hB,hO⟩:=hrel;have HGR:=Zh hgr;have HB:=Zh hB;have HO:=Zh hO;have HACC:=Zh hacc;clear hgr hB hO hacc;obtain⟨Av,cv,hv⟩:=Zac HO.out;subst hv;rcases Yab k many with hlt|hge
   ·have hlt':(k:Int)<(many:Int):=by omega
    have s1:∀ w,(Instr.slice 24 (.slice A n c) (some (.int .i64 at_)) none none).run Tryz.prog w=.ok (.slice (Zak A at_ c) (n-at_) (c-at_)) w:=λw=>Zbf w A n c at_ hat;have hsub:=(HL.out.below HB.out).sub hc at_ n hat (Yar _);rw[show(l.take n).drop at_=l.drop at_ by rw[Yav (by rw[HLN.out];exact Yar _)]]at hsub;have HSUB:=Zh hsub;clear hsub;obtain⟨v,j,e,hg⟩:∃ v j e,getL (l.drop at_)=(v,j,e):=⟨_,_,_,rfl⟩
    obtain⟨m,hm⟩:∃ m,many-k=m+1:=⟨many-k-1,by omega⟩
    have hstep:=HGR.out;rw[hm]at hstep;simp only[Zdf,hg]at hstep;have HSTEP:=Zh hstep;have HGG:=Zh hg;have HM:=Zh hm;clear hstep hg hm;go_wp2_with fail;refine(Zgy wr (Zak A at_ c) (n-at_) (c-at_) (l.drop at_) HSUB.out).mono ?_;rintro e2 w2 ⟨rfl,hw⟩;rw[hw,HGG.out];clear hw;unfold gotV;by_cases he:e=0
    ·subst he
     have hgi:=Zby HGG.out;obtain⟨q1,q2,q3,q4,q5⟩:=hgi;rw[Yas,HLN.out]at q3;clear q4;have hstep:=HSTEP.out;rw[Yaf (by simp)]at hstep;have hj:IntKind.i64.wrap ((at_:Int)+(j:Int))=((at_+j:Nat):Int):=by rw[Ybo _ (by omega)];simp
     obtain⟨at2,hat2⟩:=Ze (at_+j);rw[<- hat2]at hj;obtain⟨T,hT⟩:∃ T:Nat,T=9223372036854775808-least:=⟨_,rfl⟩
     have hTz:IntKind.u64.wrap (9223372036854775808-(least:Int))=(T:Int):=by rw[Yby];omega
     by_cases hov:T<=v
     ·have hovz:(T:Int)<=(v:Int):=by omega
      rw[Yag (by omega)]at hstep;have HS:=Zh hstep;clear hstep hT hat2;go_wp2;(try rw[Exit.noGoto_ret]);go_ret3;exact gerr HS.out.symm HB.out
     ·have hovz:¬ (T:Int)<=(v:Int):=by omega
      rw[Yaf (by omega)]at hstep;obtain⟨z,hz⟩:∃ z:Nat,z=least+v:=⟨_,rfl⟩
      obtain⟨v1,hv1⟩:∃ u:Nat,u=v+1:=⟨_,rfl⟩
      obtain⟨z1,hz1'⟩:∃ u:Nat,u=z+1:=⟨_,rfl⟩
      have hv1z:IntKind.u64.wrap ((v:Int)+1)=(v1:Int):=by rw[Yby];omega
      have hzz:IntKind.u64.wrap ((least:Int)+(v:Int))=(z:Int):=by rw[Yby];omega
      have hz1z:IntKind.u64.wrap ((least:Int)+(v1:Int))=(z1:Int):=by rw[Yby];omega
      have hzi:IntKind.i64.wrap (z:Int)=(z:Int):=Ybo _ (by omega);have hzm:z1<=9223372036854775808:=by omega
      have hat2n:at2<=n:=by omega
      have hka2:k+1<at2:=by omega
      rw[show(least:Int)-1+(v:Int)+1=(z:Int) by omega,Ya1,<- hat2]at hstep;have hzb:(z1:Int)-1=(z:Int):=by omega
      have HS:=Zh hstep;have HZB:=Zh hzb;have hal:acc.length<=1099511627776:=by have:=HACC.out;omega
      clear hstep hT hat2 hz hv1 hz1' hzb;go_wp2_with (at_builtin;refine Zae _ rfl (.tmp 47) (.tmp 52) 196 rfl w.heap.size 2 i0 (.int .i64 0) 8 Tryz.underlying196 hi hz0 hz1 hz2 rfl _ acc.length _ rfl (Yb6 HO.out _) _ 1 1 _ rfl (Zbe wr 2 z) (Zco [(z:Int)]) (by unfold maxLen;omega) (by omega) (by have:=HB.out.size;simp;omega) ?_;intro v3 w3 hown hgrow _;have HO3:=Zh hown;have HB3:=Zh ((HB.out.alloc HB.out.size _).grown hgrow (by have:=HB.out.size;simp;omega) (λg hg=>(HO.out.lt g hg).1));clear hown hgrow);go_roundw;case rel=>
       refine⟨k+1,at2,z1,acc++[(z:Int)],by omega,rfl,rfl,rfl,by go_num,by omega,by omega,by rw[Yaq,HACC.out];rfl,by omega,?_,HB3.out,?_⟩
       ·rw[HZB.out,show many-(k+1)=m by have:=HM.out;omega]
        exact HS.out
       ·rw[Yaq,Ybe]
        exact HO3.out
      case measure=>simp[intOf];omega
    ·have hstep:=HSTEP.out
     rw[Yag he]at hstep;have HS:=Zh hstep;have d1:(e != 0)=true:=by simpa using he
     clear hstep he;go_wp2;(try rw[Exit.noGoto_ret]);go_ret3;exact gerr HS.out.symm HB.out
   ·obtain rfl:k=many:=by omega
    have hlz:¬ ((k:Int)<(k:Int)):=by omega
    have hfin:getR l most=(acc,at_,0):=by
     have:=HGR.out
     rw[Ybq]at this;exact this.symm
    have HF:=Zh hfin;clear hfin;go_wp2;(try rw[Exit.noGoto_ret]);go_ret3;exact gok HF.out HB.out HO.out
 ·have hres:getR l most=([],0,e0):=by
   unfold getR;rw[<- hG];simp only;rw[Yag he]
  have HRES:=Zh hres;have HG:=Zh hG;clear hG hres;go_wp2;try rw[Exit.noGoto_ret]
  go_ret3;exact gerr HRES.out (Ybm _ _)
theorem Zom {P:Program} (w:World) (base:Nat) (t ty e:TypeId) (i:TypeInfo) (z:Value) (size bytes:Nat) (ht:P.underlying t=some (.slice e)) (hi:P.info? e=some i) (hz:i.zero=some z)
  (hsize:i.size=size) (hby:i.bytes=bytes) (hzs:z.cells.size=size) (hsz:0<size) (v:Value) (n:Nat) (xs:List Value) (hown:w.ownsRow base e size v n xs)
  (A:Option Addr) (m c:Nat) (news:List Value) (hl:news.length=m*size) (hc:∀ ad,A=some ad->∀ j u,news[j]?=some u->w.cell? (ad.add j)=some u) (hn:A=none->m=0) (h1:∀ u∈news,u.oneCell'=true)
  (h63:n+m<=maxLen) (hbytes:(n+m)*bytes<=140737488355328) (hbase:base<=w.heap.size):
  ∃ v' w',(Builtin.append_ #[t,t] ty #[v,.slice A m c]).run P w=.ok v' w'/\w'.ownsRow base e size v' (n+m) (xs++news)/\w.grownBy w' v.ownBlock/\
   (v'.ownBlock=v.ownBlock\/v'.ownBlock=some w.heap.size):=by
 cases A with
 | none=>
  have hm:=hn rfl;subst hm;have hn:news=[]:=Ya0 (by rw[hl,Nat.zero_mul]);subst hn;refine⟨v,w,?_,by simpa using hown,World.grownBy.refl w _,.inl rfl⟩;rcases hown.2 with⟨rfl,rfl⟩|⟨g,cap,cur,rfl,_,_,hnc,_⟩
  ·simp[Builtin.append_,run_underlying ht,sizeOf,typeInfo,hi,Builtin.lenOf,Builtin.firstCells]
  ·simp[Builtin.append_,run_underlying ht,sizeOf,typeInfo,hi,Builtin.lenOf,Builtin.firstCells,hnc,storeCells]
 | some ad=>
  obtain⟨v',w',hrun,h2,h3,_,h5⟩:=run_append_own_at (P:=P) w base t ty e i z size bytes ht hi hz hsize hby hzs hsz v n xs hown ad m c news hl (hc ad rfl) h1 h63 hbytes hbase;exact⟨v',w',hrun,h2,h3,h5⟩
theorem Zev {P:Program} (w:World) {ops:Array Oper} {rest:List Oper} {o:Oper} {a:Act} {Q:Exit->Act->World->Prop} (hgd:o.guard=none) (s x:Operand) (t:TypeId)
  (ho:o.op=.call { callee:=.builtin .append,args:=#[s,x],argTypes:=#[t,t] })
  (base:Nat) (e:TypeId) (i:TypeInfo) (z:Value) (size bytes:Nat) (ht:P.underlying t=some (.slice e)) (hi:P.info? e=some i) (hz:i.zero=some z)
  (hsize:i.size=size) (hby:i.bytes=bytes) (hzs:z.cells.size=size) (hsz:0<size)
  (v:Value) (n:Nat) (xs:List Value) (hs:a.eval s=v) (hown:w.ownsRow base e size v n xs)
  (A:Option Addr) (m c:Nat) (news:List Value) (hx:a.eval x=.slice A m c) (hl:news.length=m*size) (hc:∀ ad,A=some ad->∀ j u,news[j]?=some u->w.cell? (ad.add j)=some u) (hn:A=none->m=0) (h1:∀ u∈news,u.oneCell'=true)
  (h63:n+m<=maxLen) (hbytes:(n+m)*bytes<=140737488355328) (hbase:base<=w.heap.size)
  (h:∀ v' w',w'.ownsRow base e size v' (n+m) (xs++news)->w.grownBy w' v.ownBlock->(v'.ownBlock=v.ownBlock\/v'.ownBlock=some w.heap.size)->wpList P ops Q rest (a.put o.dst v') w'):wpList P ops Q (o :: rest) a w:=by
 refine wpList_plain hgd λK hK=>?_;obtain⟨v',w',hrun,h2,h3,h4⟩:=Zom (P:=P) w base t o.type e i z size bytes ht hi hz hsize hby hzs hsz v n xs hown A m c news hl hc hn h1 h63 hbytes hbase;unfold Oper.wp execOp;simp only[ho,resolve,invoke,builtin,Sem.run_bind,Sem.run_pure,Result.andThen_ok,List.map_toArray,Ya2,List.map_nil,hs,hx,hrun];exact hK _ _ (h v' w' h2 h3 h4)
theorem Zod {w:World} {base size n c:Nat} {e:TypeId} {A:Option Addr} {xs:List Value} (h:w.ownsRow base e size (.slice A n c) n xs):(∀ ad,A=some ad->∀ j u,xs[j]?=some u->w.cell? (ad.add j)=some u)/\(A=none->n=0):=by
 constructor
 ·intro ad e1 j u hu
  subst e1;have hz:ad=⟨ad.block,0,none⟩:=by
   rcases h.2 with⟨h1,_⟩|⟨g,cap,cur,h1,_⟩
   ·cases h1
   ·cases h1;rfl
  have:=h.cells (g:=ad.block) rfl j u hu
  rw[hz];exact this
 ·intro e1
  rcases h.2 with⟨_,h0⟩|⟨g,cap,cur,h1,_⟩
  ·exact h0
  ·rw[e1]at h1;cases h1
theorem Ztx {w:World} {S:List (Int×Value)} {M:List (Int×List (Int×Int))} {far:Nat->Prop} (hl:S.length=M.length) (h2:∀ (i:Nat) (p:Int×Value) (x:Int×List (Int×Int)),S[i]?=some p->M[i]?=some x->PostAt w x p far):∀ u∈S.flatMap Zan,u.oneCell'=true:=by
 intro u hu;obtain⟨p,hp,hup⟩:=List.mem_flatMap.1 hu;obtain⟨i,hi⟩:=List.getElem?_of_mem hp;have hlt:=(Ybb.1 hi).1;obtain⟨_,_,A,c,e,_⟩:=h2 i p _ hi (Yax (by omega:i<M.length));obtain⟨d,sv⟩:=p;simp only at e;subst e;exact Zfl _ _ _ _ u hup
theorem PostsO.le {w:World} {base base':Nat} {v:Value} {L:List (Int×List (Int×Int))} (h:PostsO w base v L) (hb:base'<=base):PostsO w base' v L:=by
 obtain⟨R,h0,h1,h2⟩:=h;exact⟨R,h0,Zcq h1 hb,λi p x e1 e2=>(h2 i p x e1 e2).mono (λi _ hf=>⟨rfl,Ybu hb hf.1,hf.2⟩) (Yar _)⟩
theorem PostsO.cat {w w':World} {base base2:Nat} {v v' v2:Value} {L M:List (Int×List (Int×Int))} {R S:List (Int×Value)} (hb:base<=base2) (hvb:∀ g,v.ownBlock=some g->g<base2) (h0:R.length=L.length) (k0:S.length=M.length)
  (h2:∀ (i:Nat) (p:Int×Value) (x:Int×List (Int×Int)),R[i]?=some p->L[i]?=some x->PostAt w x p λi=>base<=i/\v.ownBlock≠some i)
  (k2:∀ (i:Nat) (p:Int×Value) (x:Int×List (Int×Int)),S[i]?=some p->M[i]?=some x->PostAt w x p λi=>base2<=i/\v2.ownBlock≠some i)
  (ho:w'.ownsRow base 62 2 v' (L.length+M.length) (R.flatMap Zan++S.flatMap Zan)) (hg:w.grownBy w' v.ownBlock) (hloc:v'.ownBlock=v.ownBlock\/v'.ownBlock=some w.heap.size):PostsO w' base v' (L++M):=by
 have keep:∀ {y q},PostAt w y q (λi=>base<=i/\v.ownBlock≠some i)->PostAt w' y q λi=>base<=i/\v'.ownBlock≠some i:=λh=>h.mono (λi hi hf=>⟨hg.block i hi (λe=>hf.2 e.symm),hf.1,by
  rcases hloc with e|e
  ·rw[e];exact hf.2
  ·rw[e]
   intro e2;have:w.heap.size=i:=Ya9 e2;omega⟩) hg.size
 refine⟨R++S,by simp[h0,k0],by simpa using ho,λi q y e1 e2=>?_⟩;rcases Yab i L.length with hi|hi
 ·rw[Yba (by omega)]at e1 e2
  exact keep (h2 i q y e1 e2)
 ·rw[Ybc (by omega)]at e1 e2
  rw[h0]at e1;exact keep ((k2 _ q y e1 e2).mono (λj _ hf=>⟨rfl,by omega,λe=>by have:=hvb j e;omega⟩) (Yar _))
end
section
open Go.RowKit Go.Maps Go.WideMaps Go.Shelf
structure IsPR (w:World) (r:Nat) (s:PR):Prop where
 at_:∃ A n c,Blk w r 243 #[.slice A n c,.int .i64 s.last,.bool s.bad]/\BytesIn w A n s.left/\n<=c/\n<=1099511627776/\∀ ad,A=some ad->0<n->ad.block<r
 low:-1<=s.last
 high:s.last<=4294967296
theorem IsPR.lt {w:World} {r:Nat} {s:PR} (h:IsPR w r s):r<w.heap.size:=by obtain⟨A,n,c,h1,_⟩:=h.at_;exact h1.lt
theorem IsPR.below {w w':World} {r:Nat} {s:PR} (h:IsPR w r s) (hb:Below w.heap.size w w'):IsPR w' r s:=by
 obtain⟨A,n,c,h1,h2,h3,h4,h5⟩:=h.at_;exact⟨⟨A,n,c,h1.below hb h1.lt,h2.below hb,h3,h4,h5⟩,h.low,h.high⟩
theorem IsPR.grown {w w':World} {r:Nat} {s:PR} {row:Option Nat} (h:IsPR w r s) (hg:w.grownBy w' row) (hr:∀ g,row=some g->r<g):IsPR w' r s:=by
 obtain⟨A,n,c,h1,h2,h3,h4,h5⟩:=h.at_;exact⟨⟨A,n,c,h1.grown hg (λe=>by have:=hr r e.symm;omega),⟨h2.1,h2.2.1.keep λad e h0=>hg.block _ (h2.2.2 ad e h0) (λe2=>by have:=hr _ e2.symm;have:=h5 ad e h0;omega),λad e h0=>Ya7 (h2.2.2 ad e h0) hg.size⟩,h3,h4,h5⟩,h.low,h.high⟩
theorem Zhw {r:Nat} {a w:World} (h:Kept (λi=>i=r) a w) (i:Nat) (u:Value):Kept (λi=>i=r) a (w.setCell ⟨r,i,none⟩ u):=h.setCell (p:=⟨r,i,none⟩) (.inl rfl) u
theorem Za3 {r:Nat} {a b c:World} (h:Kept (λi=>i=r) a b) (k:Kept (λi=>i=r) b c):Kept (λi=>i=r) a c:=h.trans k (λ_ _ h=>h)
theorem Zdz (w:World) (r:Nat) (s:PR) (h:IsPR w r s):Calls Tryz.prog 198 #[at0 r] w λe w'=>e=.returned (.tuple #[])/\IsPR w' r s.fail/\Kept (λi=>i=r) w w':=by
 obtain⟨A,n,c,h1,h2,h3,h4,h5⟩:=h.at_;have HB:=Zh h1;have hl:=h.low;have hh:=h.high;have c0:=h1.cell 0;have c2:=h1.cell 2;have z0:=h1.frozen 0;have z2:=h1.frozen 2;simp at c0 c2;clear h h1 h2;unfold at0;go_enter Tryz.func198,Tryz.ntmps198;go_wp2;go_end0;have e1:=(HB.out.set_ 0 (.slice none 0 0)).set_ 2 (.bool true);refine⟨rfl,⟨⟨none,0,0,by simpa[PR.fail]using e1,BytesIn.nil _,by omega,by omega,λad e=>by cases e⟩,hl,hh⟩,?_⟩;exact Zhw (Zhw (Kept.refl _ w) 0 _) 2 _
theorem Zhs (w:World) (r:Nat) (s:PR) (h:IsPR w r s) (most:Nat):Calls Tryz.prog 167 #[at0 r,.int .u64 most] w λe w'=>e=.returned (.int .u64 (rNum s most).1)/\IsPR w' r (rNum s most).2/\Kept (λi=>i=r) w w':=by
 obtain⟨A,n,c,h1,h2,h3,h4,h5⟩:=h.at_;have hln:s.left.length=n:=by have:=h2.2.1.len;simpa using this
 have HP:=Zh h;have HB:=Zh h1;have HX:=Zh h2;have HLN:=Zh hln;have H5:=Zh h5;have c0:=h1.cell 0;have z0:=h1.frozen 0;simp at c0;obtain⟨R,hR⟩:=Ze (rNum s most);rw[<- hR];unfold rNum at hR;have HG:=Zh (Zgy w A n c s.left h2);have hinv:(getL s.left).2.2=0->(getL s.left).2.1<=n/\(getL s.left).1<18446744073709551616:=λe=>by
  have:=Zis e
  rw[hln]at this;exact this
 unfold gotV at HG;obtain⟨G,hG⟩:=Ze (getL s.left);rw[<- hG]at HG hR hinv;obtain⟨v,j,e0⟩:=G;simp only at HG hR hinv;clear h h1 h2 h5 hln hG;unfold at0;by_cases he:e0=0
 ·subst he
  obtain⟨q1,q2⟩:=hinv rfl;clear hinv;by_cases hv:most<v
  ·have d1:decide ((most:Int)<(v:Int))=true:=Yb0 (by omega)
   rw[Yag (.inr hv)]at hR;have HR:=Zh hR;clear hR;go_enter Tryz.func167,Tryz.ntmps167;go_wp2_with fail;refine HG.out.mono ?_;rintro e w1 ⟨rfl,rfl⟩;go_wp2_with fail;refine(Zdz w1 r s HP.out).mono ?_;rintro e w2 ⟨rfl,hp,hk⟩;have HP2:=Zh hp;have HK2:=Zh hk;clear hp hk;go_wp2;go_ret;rw[HR.out];exact⟨rfl,HP2.out,HK2.out⟩
  ·have d1:decide ((most:Int)<(v:Int))=false:=Ybt (by omega)
   rw[Yaf (by simp;omega)]at hR;have HR:=Zh hR;have hsl:=λw=>Zbf w A n c j q1;have hsub:=HX.out.sub h3 j n q1 (Yar _);rw[Yav (by rw[HLN.out];exact Yar _)]at hsub;have HSUB:=Zh hsub;clear hR hsub;go_enter Tryz.func167,Tryz.ntmps167;go_wp2_with fail;refine HG.out.mono ?_;rintro e w1 ⟨rfl,rfl⟩;go_wp2;go_ret;rw[HR.out];have e1:=HB.out.set_ 0 (.slice (Zak A j c) (n-j) (c-j));have hk:Kept (λi=>i=r) w1 (w1.setCell ⟨r,0,none⟩ (.slice (Zak A j c) (n-j) (c-j))):=Zhw (Kept.refl _ w1) 0 _;have hne:∀ ad,Zak A j c=some ad->0<n-j->ad.block<r:=λad e h0=>by
    unfold Zak at e;split at e
    ·exact H5.out ad e (by omega)
    ·cases A with
     | none=>cases e
     | some b=>
      simp at e;subst e;have:(b.add j).block=b.block:=by unfold Addr.add;split<;>rfl
      rw[this];exact H5.out b rfl (by omega)
   refine⟨rfl,⟨⟨_,_,_,by simpa using e1,⟨HSUB.out.1,HSUB.out.2.1.keep λad e h0=>Yb5 _ _ _ _ (Nat.ne_of_lt (hne ad e h0)),λad e h0=>by rw[Zai];exact HSUB.out.2.2 ad e h0⟩,by omega,by omega,hne⟩,HP.out.low,HP.out.high⟩,hk⟩
 ·have d1:(e0 != 0)=true:=by simpa using he
  rw[Yag (.inl he)]at hR;have HR:=Zh hR;clear hR hinv he;go_enter Tryz.func167,Tryz.ntmps167;go_wp2_with fail;refine HG.out.mono ?_;rintro e w1 ⟨rfl,rfl⟩;go_wp2_with fail;refine(Zdz w1 r s HP.out).mono ?_;rintro e w2 ⟨rfl,hp,hk⟩;have HP2:=Zh hp;have HK2:=Zh hk;clear hp hk;go_wp2;go_ret;rw[HR.out];exact⟨rfl,HP2.out,HK2.out⟩
theorem Zkk (w:World) (r:Nat) (s:PR) (h:IsPR w r s):Calls Tryz.prog 197 #[at0 r] w λe w'=>∃ v,e=.returned v/\w'.ownsRow w.heap.size 2 1 v (Zde s).1.length ((Zde s).1.map i64V)/\IsPR w' r (Zde s).2/\Kept (λi=>i=r) w w':=by
 obtain⟨A,n,c,h1,h2,h3,h4,h5⟩:=h.at_;have hln:s.left.length=n:=by have:=h2.2.1.len;simpa using this
 have hrl:=h.lt;have HP:=Zh h;have HB:=Zh h1;have HX:=Zh h2;have HLN:=Zh hln;have H5:=Zh h5;have c0:=h1.cell 0;simp at c0;obtain⟨R,hR⟩:=Ze (Zde s);rw[<- hR];unfold Zde at hR;have HG:=Zh (Zhb w A n c s.left h2 h3 h4 4096 (by omega) (by omega));have hinv:(getR s.left 4096).2.2=0->(getR s.left 4096).2.1<=n:=λe=>by
  have:=(Zf4 e).1
  rwa [hln]at this
 unfold Zi7 at HG;obtain⟨G,hG⟩:=Ze (getR s.left 4096);rw[<- hG]at HG hR hinv;obtain⟨l,j,e0⟩:=G;simp only at HG hR hinv;clear h h1 h2 h5 hln hG;unfold at0;by_cases he:e0=0
 ·subst he
  have q1:=hinv rfl;rw[Yaf (by simp)]at hR;have HR:=Zh hR;have hsl:=λw=>Zbf w A n c j q1;have hsub:=HX.out.sub h3 j n q1 (Yar _);rw[Yav (by rw[HLN.out];exact Yar _)]at hsub;have HSUB:=Zh hsub;clear hR hsub hinv;go_enter Tryz.func197,Tryz.ntmps197;go_wp2_with fail;refine HG.out.mono ?_;rintro e w1 ⟨v1,rfl,hb1,ho1⟩;have HB1:=Zh hb1;have HO1:=Zh ho1;have HBK1:=Zh (HB.out.below hb1 hrl);have HSUB1:=Zh (HSUB.out.below hb1);have t0:=HBK1.out.cell 0;have z0:=HBK1.out.frozen 0;simp at t0;clear hb1 ho1 c0;go_wp2;go_ret;rw[HR.out];have e1:=HBK1.out.set_ 0 (.slice (Zak A j c) (n-j) (c-j));have hk:Kept (λi=>i=r) w (w1.setCell ⟨r,0,none⟩ (.slice (Zak A j c) (n-j) (c-j))):=Zhw (Kept.below HB1.out) 0 _;have hne:∀ ad,Zak A j c=some ad->0<n-j->ad.block<r:=λad e h0=>by
   unfold Zak at e;split at e
   ·exact H5.out ad e (by omega)
   ·cases A with
    | none=>cases e
    | some b=>
     simp at e;subst e;have:(b.add j).block=b.block:=by unfold Addr.add;split<;>rfl
     rw[this];exact H5.out b rfl (by omega)
  refine⟨v1,rfl,?_,⟨⟨_,_,_,by simpa using e1,⟨HSUB1.out.1,HSUB1.out.2.1.keep λad e h0=>Yb5 _ _ _ _ (Nat.ne_of_lt (hne ad e h0)),λad e h0=>by rw[Zai];exact HSUB1.out.2.2 ad e h0⟩,by omega,by omega,hne⟩,HP.out.low,HP.out.high⟩,hk⟩;exact Zab HO1.out λg hg=>Yb5 _ _ _ _ (by have:=(HO1.out.lt g hg).1;simp only;omega)
 ·have d1:(e0 != 0)=true:=by simpa using he
  rw[Yag he]at hR;have HR:=Zh hR;clear hR hinv he;go_enter Tryz.func197,Tryz.ntmps197;go_wp2_with fail;refine HG.out.mono ?_;rintro e w1 ⟨v1,rfl,hb1,ho1⟩;have HB1:=Zh hb1;have HP1:=Zh (HP.out.below hb1);clear hb1 ho1;go_wp2_with fail;refine(Zdz w1 r s HP1.out).mono ?_;rintro e w2 ⟨rfl,hp,hk⟩;have HP2:=Zh hp;have HK2:=Zh (Za3 (Kept.below HB1.out) hk);clear hp hk;go_wp2;go_ret;rw[HR.out];exact⟨_,rfl,⟨rfl,.inl ⟨rfl,rfl⟩⟩,HP2.out,HK2.out⟩
theorem Zry (s:PR) (most:Nat):(rNum s most).1<=most:=by
 unfold rNum;split
 ·exact Ybd _
 ·rename_i h
  simp only;omega
theorem Zy6 (s:PR) (most:Nat):(rNum s most).2.last=s.last:=by
 unfold rNum;split<;>rfl
theorem Zs7 (w:World) (r:Nat) (s:PR) (h:IsPR w r s):Calls Tryz.prog 196 #[at0 r] w λe w'=>e=.returned (.int .i64 (rDoc s).1)/\IsPR w' r (rDoc s).2/\Kept (λi=>i=r) w w':=by
 have hlow:=h.low;have hhigh:=h.high;have hlt:=h.lt;obtain⟨A,n,c,h1,h2,h3,h4,h5⟩:=h.at_;have HP:=Zh h;have HB:=Zh h1;have hnum:=Zhs w.drew r s (h.below (Zaf (Ybm _ w) 1)) 4294967296;have hle:=Zry s 4294967296;have hla:=Zy6 s 4294967296;obtain⟨R,hR⟩:=Ze (rDoc s);rw[<- hR];unfold rDoc at hR;obtain⟨z,hz⟩:=Ze (rNum s 4294967296);rw[<- hz]at hR hle hla hnum;obtain⟨k,z2⟩:=z;simp only at hR hle hla hnum;have HNUM:=Zh hnum;have HR:=Zh hR;have HLA:=Zh hla;obtain⟨la,hla0⟩:=Ze s.last;have c1:=h1.cell 1;simp at c1;rw[<- hla0]at c1 hlow hhigh;have HL0:=Zh hla0;have hw1:IntKind.i64.wrap (la+1)=la+1:=Ybo _ (by omega);have hw2:IntKind.i64.wrap (k:Int)=(k:Int):=Ybo _ (by omega);have hw3:IntKind.i64.wrap (la+1+(k:Int))=la+1+(k:Int):=Ybo _ (by omega);clear h h1 h2 h5 hz hR hnum hla hla0;unfold at0;go_enter Tryz.func196,Tryz.ntmps196;go_wp2_with fail;refine Yb8 (S:=λw'=>w'.cell? ⟨r,1,none⟩=some (.int .i64 la)) (by kernel_rfl) ?_ (λhHeld=>?_)
 ·exact c1
 refine tk 0 ?_;try simp only[Act.put,lz3,lz4,lz5]
 refine tk 1 ?_;try simp only[Act.put,lz3,lz4,lz5]
 refine tk 2 ?_;try simp only[Act.put,lz3,lz4,lz5]
 refine tk 3 ?_;try simp only[Act.put,lz3,lz4,lz5]
 refine tk 4 ?_;try simp only[Act.put,lz3,lz4,lz5]
 refine tk 5 ?_;try simp only[Act.put,lz3,lz4,lz5]
 refine rd1 6 ?_;intro K hK;go_simp;refine HNUM.out.mono ?_;rintro e w2 ⟨rfl,hp,hk⟩;have hS2:w2.cell? ⟨r,1,none⟩=some (.int .i64 la):=by
  obtain⟨A2,n2,c2,q1,_⟩:=hp.at_;have:=q1.cell 1
  simp at this;rw[this,HLA.out,HL0.out]
 have HP2:=Zh hp;have HK2:Hid (Kept (λi=>i=r) w w2):=Zh ⟨hk.os,hk.tape,hk.output,hk.size,hk.block⟩;clear hp hk;go_wp2_with fail;refine hK.out _ _ hS2 (λ_=>?_);clear hK K;refine tk 7 ?_;try simp only[Act.put,lz3,lz4,lz5]
 refine tk 8 ?_;try simp only[Act.put,lz3,lz4,lz5]
 refine tk 9 ?_;try simp only[Act.put,lz3,lz4,lz5]
 refine Yb9 (by kernel_rfl) ?_ _;obtain⟨d,hd⟩:=Ze (la+1+(k:Int));have hr:=HR.out;rw[<- HL0.out,<- hd]at hr;rw[<- hd];have HR2:=Zh hr;clear hr;by_cases hbig:4294967296<d
 ·have d1:decide ((4294967296:Int)<d)=true:=Yb0 hbig
  clear hd hw3;go_wp2_with fail;refine(Zdz w2 r z2 HP2.out).mono ?_;rintro e w3 ⟨rfl,hp3,hk3⟩;have HP3:=Zh hp3;have HK3:=Zh (Za3 HK2.out hk3);clear hp3 hk3;go_wp2;go_ret;rw[HR2.out,Yag hbig];exact⟨rfl,HP3.out,HK3.out⟩
 ·have d1:decide ((4294967296:Int)<d)=false:=Ybt hbig
  clear hd hw3;go_wp2;go_ret;rw[HR2.out,Yaf (show ¬ 4294967296<d by omega)];exact⟨rfl,HP2.out,HK2.out⟩
def RetP (r:Nat) (w:World) (R:List Pst×PR) (e:Ending) (w':World):Prop:=∃ v,e=.returned v/\PostsO w' w.heap.size v R.1/\IsPR w' r R.2/\Kept (λi=>i=r) w w'
theorem Zzx {s:PR} (hb:s.last<=4294967296) (h0:-1<=s.last):(Zde (rDoc s).2).1.length≠0->-1<=(rDoc s).1/\(rDoc s).1<=4294967296:=by
 intro h;unfold rDoc at h ⊢;simp only at h ⊢;by_cases h1:4294967296<s.last+1+((rNum s 4294967296).1:Int)
 ·rw[Yag h1]at h
  exfalso;apply h;unfold Zde PR.fail getR;simp[getL,Zdg]
 ·omega
theorem Ztz (s:PR):(Zde s).1.length<=4096/\∀ x∈(Zde s).1,Zaj x:=by
 unfold Zde;split
 ·exact⟨by simp,by simp⟩
 ·rename_i h
  have h1:(getR s.left 4096).2.2=0:=by
   rcases Decidable.em ((getR s.left 4096).2.2=0)with h2|h2
   ·exact h2
   ·exact absurd h2 h
  obtain⟨q1,q2,q3,q4⟩:=Zf4 h1;refine⟨by simp only;omega,λx hx=>?_⟩;have h3:=Zd7 q3 x hx;have h4:=q4 x hx;unfold Zaj;omega
theorem Qa7 {w:World} {d:Int} {v:Value} {x:Pst} {far:Nat->Prop} (h:PostAt w x (d,v) far) (hf:∀ i,i<w.heap.size->far i->w.heap.size<=w.heap.size) (base:Nat) (hb:base<=w.heap.size) (hfar:∀ i,far i->base<=i):
  PostsO (w.alloc (.cells #[.int .i64 d,v] 62)) base (.slice (some ⟨w.heap.size,0,none⟩) 1 1) [x]:=by
 have _:=hf;refine⟨[(d,v)],rfl,⟨rfl,.inr ⟨w.heap.size,1,#[.int .i64 d,v],rfl,hb,Ybl w _,Yar _,by unfold maxLen;omega,rfl,rfl⟩⟩,λi p y e1 e2=>?_⟩
 match i with
 | 0=>
  simp at e1 e2;subst e1 e2;exact h.mono (λi hi hfi=>⟨Ybn w _ i hi,hfar i hfi,λe=>by have:=Ya9 e;simp only at this;omega⟩) (by simp)
 | i+1=>simp at e1
theorem Zw7 (w:World) (r:Nat) (s:PR) (h:IsPR w r s):Calls Tryz.prog 164 #[at0 r] w (RetP r w (Zd8 s)):=by
 obtain⟨i1,hi1,hy0,hy1,hy2⟩:=info_parts Zgs;have hlow:=h.low;have hhigh:=h.high;have hlt:=h.lt;have HDOC:=Zh (Zs7 w r s h);have hdh:=Zzx hhigh hlow;have hpl:=Ztz (rDoc s).2;have hal:=Ztz (Zde (rDoc s).2).2;obtain⟨R,hR⟩:=Ze (Zd8 s);rw[<- hR];unfold Zd8 Zpv at hR;obtain⟨D,hD⟩:=Ze (rDoc s);rw[<- hD]at HDOC hdh hpl hal hR;obtain⟨d,s1⟩:=D;simp only at HDOC hdh hpl hal hR;obtain⟨P',hP⟩:∃ P',P'=Zde s1:=⟨_,rfl⟩
 rw[<- hP]at hdh hpl hal hR;have HP1:=Zh hP;obtain⟨P,s2⟩:=P';simp only at hdh hpl hal hR;obtain⟨A',hA⟩:∃ A',A'=Zde s2:=⟨_,rfl⟩
 rw[<- hA]at hal hR;have HA1:=Zh hA;obtain⟨A,s3⟩:=A';simp only at hal hR;have HR:=Zh hR;have HPF:=Zh hpl.2;have HAF:=Zh hal.2;have hPl:=hpl.1;have hAl:=hal.1;clear h hR hD hP hA hpl hal;unfold at0;go_enter Tryz.func164,Tryz.ntmps164;go_wp2_with fail;refine HDOC.out.mono ?_;rintro e w1 ⟨rfl,hp1,hk1⟩;have HK1:=Zh hk1;have hz1:=hk1.size;have HRISE:=Zh (Zkk w1 r s1 hp1);rw[<- HP1.out]at HRISE;clear hk1 hp1;go_wp2_with fail;refine HRISE.out.mono ?_;rintro e w2 ⟨v2,rfl,ho2,hp2,hk2⟩;have HK2:=Zh (Za3 HK1.out hk2);have HO2:=Zh ho2;have hz2:=hk2.size;have HRISE2:=Zh (Zkk w2 r s2 hp2);rw[<- HA1.out]at HRISE2;obtain⟨AP,cP,rfl⟩:=Zac ho2;clear ho2 hp2 hk2;go_wp2_with fail;refine HRISE2.out.mono ?_;rintro e w3 ⟨v3,rfl,ho3,hp3,hk3⟩;have HK3:=Zh (Za3 HK2.out hk3);have HO3:=Zh ho3;have HOP:=Zh (Zab HO2.out (w':=w3) λg hg=>hk3.block g (HO2.out.lt g hg).2 (λe=>by have:=(HO2.out.lt g hg).1;omega));have HP3:=Zh hp3;have hz3:=hk3.size;obtain⟨AA,cA,rfl⟩:=Zac ho3;clear ho3 hp3 hk3;by_cases hp0:P.length=0
 ·have d1:((P.length:Int)==0)=true:=by rw[hp0];rfl
  have hr:=HR.out;rw[Yag (.inl hp0)]at hr;have HR:=Zh hr;clear hr hp0 hdh;go_wp2_with fail;refine(Zdz w3 r s3 HP3.out).mono ?_;rintro e w4 ⟨rfl,hp4,hk4⟩;have HP4:=Zh hp4;have HK4:=Zh (Za3 HK3.out hk4);clear hp4 hk4;go_wp2;go_ret;rw[HR.out];exact⟨_,rfl,PostsO.nil _ _,HP4.out,HK4.out⟩
 ·have d1:((P.length:Int)==0)=false:=beq_eq_false_iff_ne.2 (λe=>hp0 (by omega))
  by_cases hpa:P.length=A.length
  ·have d2:((P.length:Int) != (A.length:Int))=false:=by simp;omega
   have hr:=HR.out;rw[Yaf (λe=>e.elim hp0 (λe=>e hpa))]at hr;have HR:=Zh hr;obtain⟨hd0,hd1⟩:=hdh hp0;obtain⟨n,hn⟩:=Ze P.length;have hnA:A.length=n:=by omega
   have hn0:0<n:=by omega
   obtain⟨B3,n3,c3,q1,q2,q3,q4,q5⟩:=HP3.out.at_;have HB3:=Zh q1;have t1:=q1.cell 1;have z1:=q1.frozen 1;simp at t1;obtain⟨w4,hw4⟩:=Ze (w3.setCell ⟨r,1,none⟩ (.int .i64 d));have HP4:Hid (IsPR w4 r ⟨s3.left,d,s3.bad⟩):=Zh (by
    rw[hw4];have e1:=q1.set_ 1 (.int .i64 d);exact⟨⟨B3,n3,c3,by simpa using e1,⟨q2.1,q2.2.1.keep λad e h0=>Yb5 _ _ _ _ (Nat.ne_of_lt (q5 ad e h0)),λad e h0=>by rw[Zai];exact q2.2.2 ad e h0⟩,q3,q4,q5⟩,hd0,hd1⟩)
   have HK4:Hid (Kept (λi=>i=r) w w4):=Zh (by rw[hw4];exact Zhw HK3.out 1 _);have HPI:Hid (IntsIn w4 AP n P):=Zh (by
    have:=IntsIn.own (w:=w4) (base:=w1.heap.size) (by rw[hw4];exact Zab HOP.out λg hg=>Yb5 _ _ _ _ (by have:=(HO2.out.lt g hg).1;simp only;omega)) (by unfold maxLen;omega) HPF.out
    rw[hn];exact this)
   have HAI:Hid (IntsIn w4 AA n A):=Zh (by
    have:=IntsIn.own (w:=w4) (base:=w2.heap.size) (by rw[hw4];exact Zab HO3.out λg hg=>Yb5 _ _ _ _ (by have:=(HO3.out.lt g hg).1;simp only;omega)) (by unfold maxLen;omega) HAF.out
    rw[hnA]at this;exact this)
   have hz4:w4.heap.size=w3.heap.size:=by rw[hw4];exact Zai _ _ _
   have HW4:=Zh hw4;rw[<- hn,hnA]at d2;rw[<- hn]at d1;have HNP:=Zh hn.symm;have HNA:=Zh hnA;have hn4:n<=4096:=by omega
   rw[hnA,<- hn];clear q1 q2 q3 q4 q5 hw4 hr hp0 hpa hPl hAl hn hnA hdh;have hzl:(P.zip A).length=n:=by rw[List.length_zip];have:=HNP.out;have:=HNA.out;omega
   have HZL:=Zh hzl;clear hzl;go_wp2_with fail;rw[<- HW4.out];clear t1 z1;go_loopw [6,32] (λv i wr=>∃ k:Nat,k<=n/\i=.int .i64 k/\wr.ownsRow w4.heap.size 64 2 v k (((P.zip A).take k).flatMap Zat)/\Below w4.heap.size w4 wr) (λ_ i _=>n-(intOf i).toNat);case atStart=>exact⟨0,by omega,rfl,⟨rfl,.inl ⟨rfl,rfl⟩⟩,Ybm _ _⟩
   case round=>
    obtain⟨k,hk,rfl,hO,hB⟩:=hrel;have HO:=Zh hO;have HB:=Zh hB;have hbz:=hB.size;clear hO hB;obtain⟨Av,cv,hv⟩:=Zac HO.out;subst hv;rcases Yab k n with hlt2|hge
    ·have hlt':(k:Int)<(n:Int):=by omega
     have p0:(0:Int)<=(k:Int):=by omega
     have hw5:IntKind.i64.wrap ((k:Int)+1)=(k:Int)+1:=Ybo _ (by omega);obtain⟨pP,x1,rfl,hx1,a0,-,-⟩:=(HPI.out.below HB.out).at k hlt2;obtain⟨pA,x2,rfl,hx2,b0,-,-⟩:=(HAI.out.below HB.out).at k hlt2;obtain⟨_,y1,e1,hy,g0,-,-⟩:=HPI.out.at k hlt2;obtain⟨_,y2,e2,hy',g1,-,-⟩:=HAI.out.at k hlt2;obtain rfl:=Ya9 e1;obtain rfl:=Ya9 e2;obtain rfl:=Ya9 (hx1.symm.trans hy);obtain rfl:=Ya9 (hx2.symm.trans hy');have HPI4:=Zh g0;have HAI4:=Zh g1;clear e1 e2 hy hy' g0 g1;have HTK:Hid ((P.zip A).take (k+1)=(P.zip A).take k++[(x1,x2)]):=Zh (by
      rw[Ya5,(List.getElem?_zip_eq_some (z:=(x1,x2))).2 ⟨hx1,hx2⟩];rfl)
     clear hx1 hx2;go_wp2_with fail;refine Yb8 (S:=λw'=>w'.cell? (pP.add k)=some (.int .i64 x1)/\w'.cell? (pA.add k)=some (.int .i64 x2)) (by kernel_rfl) ?_ (λhHeld=>?_)
     ·exact⟨a0,b0⟩
     refine tk 0 ?_ (hy:=by((intro w hSw;obtain⟨hS1,hS2⟩:=hSw;go_simp);first|done|with_reducible rfl));(try simp only[Act.put,lz3,lz4,lz5]);refine tk 1 ?_ (hy:=by((intro w hSw;obtain⟨hS1,hS2⟩:=hSw;go_simp);first|done|with_reducible rfl));(try simp only[Act.put,lz3,lz4,lz5]);refine tk 2 ?_ (hy:=by((intro w hSw;obtain⟨hS1,hS2⟩:=hSw;go_simp);first|done|with_reducible rfl));(try simp only[Act.put,lz3,lz4,lz5]);refine tk 3 ?_ (hy:=by((intro w hSw;obtain⟨hS1,hS2⟩:=hSw;go_simp);first|done|with_reducible rfl));(try simp only[Act.put,lz3,lz4,lz5]);refine tk 4 ?_ (hy:=by((intro w hSw;obtain⟨hS1,hS2⟩:=hSw;go_simp);first|done|with_reducible rfl));(try simp only[Act.put,lz3,lz4,lz5]);refine tk 5 ?_ (hy:=by((intro w hSw;obtain⟨hS1,hS2⟩:=hSw;go_simp);first|done|with_reducible rfl));(try simp only[Act.put,lz3,lz4,lz5]);refine tk 6 ?_ (hy:=by((intro w hSw;obtain⟨hS1,hS2⟩:=hSw;go_simp);first|done|with_reducible rfl));(try simp only[Act.put,lz3,lz4,lz5]);refine tk 7 ?_ (hy:=by((intro w hSw;obtain⟨hS1,hS2⟩:=hSw;go_simp);first|done|with_reducible rfl));(try simp only[Act.put,lz3,lz4,lz5]);refine tk 8 ?_ (hy:=by((intro w hSw;obtain⟨hS1,hS2⟩:=hSw;go_simp);first|done|with_reducible rfl));(try simp only[Act.put,lz3,lz4,lz5]);refine tk 9 ?_ (hy:=by((intro w hSw;obtain⟨hS1,hS2⟩:=hSw;go_simp);first|done|with_reducible rfl));(try simp only[Act.put,lz3,lz4,lz5]);obtain⟨wd,hwd⟩:=Ze wr.drew;have hbd:Below wr.heap.size wr wd:=by rw[hwd];exact(Ybm _ wr).drew
     have HOD:=Zh (Zab HO.out (w':=wd) λg hg=>hbd.block g (HO.out.lt g hg).2);have hzd:wr.heap.size<=wd.heap.size:=by rw[hwd];exact Yar _
     rw[<- hwd];have hba:Below wd.heap.size wd (wd.alloc (.cells #[.int .i64 x1,.int .i64 x2] 64)):=(Ybm _ wd).alloc (Yar _) _;have hSd:=And.intro (Zag hbd a0) (Zag hbd b0);have hSa:=And.intro (Zag hba hSd.1) (Zag hba hSd.2);have HBA:=Zh (Zaa (Zaa HB.out hbd hbz) hba (by omega));clear hwd;refine rd1 10 ?_;intro K hK;go_simp;refine hK.out _ _ hSa (λ_=>?_);clear hK K;(try simp only[Act.put,lz3,lz4,lz5]);refine rd1 11 ?_;intro K hK;refine Zar _ rfl (.tmp 35) (.tmp 45) 60 rfl w4.heap.size 64 i1 _ 2 16 Tryz.underlying60 hi1 hy0 hy1 hy2 rfl (by decide) _ k _ rfl (Yb6 HOD.out _) ⟨wd.heap.size,0,none⟩ 1 1 (Zat (x1,x2)) rfl rfl (Zv7 wd 64 (x1,x2)) (Zgg _) (by unfold maxLen;omega) (by omega) (by simp;omega) ?_;intro v5 w5 hown hgrow hloc;have HO5:=Zh hown;have HB5:=Zh (HBA.out.grown hgrow (by simp;omega) (λg hg=>(HO.out.lt g hg).1));have hS5:w5.cell? (pP.add k)=some (.int .i64 x1)/\w5.cell? (pA.add k)=some (.int .i64 x2):=⟨Zag HB5.out HPI4.out,Zag HB5.out HAI4.out⟩
     clear hown hgrow hloc;refine hK.out _ _ hS5 (λ_=>?_);clear hK K;(try simp only[Act.put,lz3,lz4,lz5]);refine tk 12 ?_ (hy:=by((intro w hSw;obtain⟨hS1,hS2⟩:=hSw;go_simp);first|done|with_reducible rfl));(try simp only[Act.put,lz3,lz4,lz5]);refine Yb9 (by kernel_rfl) ?_ _;go_wp2;go_roundw;case rel=>
      refine⟨k+1,by omega,by go_num,?_,HB5.out⟩;rw[HTK.out,Ybg];simpa using HO5.out
     case measure=>simp[intOf];omega
    ·obtain rfl:k=n:=by omega
     have hlz:¬ ((k:Int)<(k:Int)):=by omega
     have hall:(P.zip A).take k=P.zip A:=Yav (by rw[HZL.out];exact Yar _);rw[hall]at HO;have HO':=Zh HO.out;clear hall HO;go_wp2;go_ret;rw[HR.out];have hpa:PostAt wr (d,P.zip A) (d,.slice Av k cv) λi=>w4.heap.size<=i:=by
      refine⟨rfl,by unfold Zaj;omega,Av,cv,by simp only;rw[HZL.out],by simp only;rw[HZL.out];exact Zbi HO'.out,?_,λad e _=>?_⟩
      ·simp only
       rw[HZL.out];exact PairsIn.ownTwo HO'.out HZL.out (by unfold maxLen;omega) (λp hp=>⟨HPF.out _ (Zn0 hp).1,HAF.out _ (Zn0 hp).2⟩)
      ·have:=HO'.out.lt ad.block (by rw[e];rfl)
       exact⟨this.2,this.1⟩
     have hbw:Below wr.heap.size wr (wr.alloc (.cells #[.int .i64 d,.slice Av k cv] 62)):=(Ybm _ wr).alloc (Yar _) _;refine⟨_,rfl,Qa7 hpa (λ_ _ _=>Yar _) w.heap.size (by omega) (λi hi=>by omega),(HP4.out.below HB.out).below hbw,Za3 HK4.out (Kept.below (Zaa HB.out hbw hbz))⟩
  ·have d2:((P.length:Int) != (A.length:Int))=true:=by simp;omega
   have hr:=HR.out;rw[Yag (.inr hpa)]at hr;have HR:=Zh hr;clear hr hp0 hpa hdh;go_wp2_with fail;refine(Zdz w3 r s3 HP3.out).mono ?_;rintro e w4 ⟨rfl,hp4,hk4⟩;have HP4:=Zh hp4;have HK4:=Zh (Za3 HK3.out hk4);clear hp4 hk4;go_wp2;go_ret;rw[HR.out];exact⟨_,rfl,PostsO.nil _ _,HP4.out,HK4.out⟩
theorem PostsO.keptR {w w':World} {r base:Nat} {v:Value} {L:List Pst} (h:PostsO w base v L) (hk:Kept (λi=>i=r) w w') (hr:r<base):PostsO w' base v L:=h.keepIn (λi h1 h2=>hk.block i h2 (λe=>by omega)) hk.size
theorem Zwj (w:World) (r:Nat) (s:PR) (h:IsPR w r s) (inside:PR->List Pst×PR) (g:Nat) (cap:Array Value) (eg:∀ args w,(callFunc g args).run Tryz.prog w=.ok (.enter g args) w)
  (hin:∀ w1 z,Kept (λi=>i=r) w w1->IsPR w1 r z->Calls Tryz.prog g cap w1 (RetP r w1 (inside z))):
  Calls Tryz.prog 166 #[at0 r,.func (.func g) #[] cap] w (RetP r w (Ze7 inside s)):=by
 have hlt:=h.lt;have HDOC:=Zh (Zs7 w r s h);have HIN:=Zh hin;obtain⟨R,hR⟩:=Ze (Ze7 inside s);rw[<- hR];unfold Ze7 rEnd at hR;obtain⟨D,hD⟩:=Ze (rDoc s);rw[<- hD]at HDOC hR;obtain⟨d,s1⟩:=D;simp only at HDOC hR;have HR:=Zh hR;clear h hin hR hD;unfold at0;go_enter Tryz.func166,Tryz.ntmps166;go_wp2_with fail;refine HDOC.out.mono ?_;rintro e w1 ⟨rfl,hp1,hk1⟩;have HK1:=Zh hk1;have HP1:=Zh hp1;obtain⟨A1,n1,c1,q1,q2,q3,q4,q5⟩:=hp1.at_;have hl1:s1.left.length=n1:=by have:=q2.2.1.len;simpa using this
 have t0:=q1.cell 0;simp at t0;have HNUM:=Zh (Zhs w1 r s1 hp1 n1);have hr:=HR.out;rw[hl1]at hr;have hkb:=Zry s1 n1;obtain⟨z,hz⟩:=Ze (rNum s1 n1);rw[<- hz]at hr HNUM hkb;obtain⟨k,z2⟩:=z;simp only at hr HNUM hkb;have HR:=Zh hr;have hw1:IntKind.u64.wrap (n1:Int)=(n1:Int):=IntWalk.u64_in _ (by omega);clear hk1 hp1 q1 q2 q3 q5 hl1 hr hz;go_wp2_with fail;refine HNUM.out.mono ?_;rintro e w2 ⟨rfl,hp2,hk2⟩;have HK2:=Zh (Za3 HK1.out hk2);have HINs:=Zh (HIN.out w2 z2 (Za3 HK1.out hk2) hp2);obtain⟨A2,n2,c2,q1,q2,q3,q4',q5⟩:=hp2.at_;have hl2:z2.left.length=n2:=by have:=q2.2.1.len;simpa using this
 have t2:=q1.cell 0;simp at t2;have hz2:=hk2.size;have hr:=HR.out;rw[hl2]at hr;obtain⟨q,hq⟩:=Ze (inside z2);rw[<- hq]at hr HINs;have HR:=Zh hr;have hw2:IntKind.i64.wrap (k:Int)=(k:Int):=Ybo _ (by omega);have hw3:IntKind.i64.wrap ((n2:Int)-(k:Int))=(n2:Int)-(k:Int):=Ybo _ (by omega);obtain⟨E,hE⟩:=Ze ((n2:Int)-(k:Int));have HE:=Zh hE;clear hk2 hp2 q1 q2 q3 q5 hl2 hr hq t0 hE;go_wp2_with fail;rw[<- HE.out];refine HINs.out.mono ?_;rintro e w3 ⟨v3,rfl,ho3,hp3,hk3⟩;have HK3:=Zh (Za3 HK2.out hk3);have HO3:=Zh (ho3.le (base':=w.heap.size) (by have:=HK2.out.size;omega));have HP3:=Zh hp3;obtain⟨A3,n3,c3,q1,q2,q3,q4',q5⟩:=hp3.at_;have hl3:q.2.left.length=n3:=by have:=q2.2.1.len;simpa using this
 have t3:=q1.cell 0;have t3':=q1.cell 1;simp at t3 t3';have hr:=HR.out;rw[hl3,<- HE.out]at hr;have HR:=Zh hr;obtain⟨la,hla⟩:=Ze q.2.last;rw[<- hla]at t3' HR;clear ho3 hk3 hp3 q1 q2 q3 q5 hl3 hr t2 hla;by_cases hf:la≠d\/(n3:Int)≠E
 ·have hr:=HR.out
  rw[Yag hf]at hr;have HR:=Zh hr;have HF:=Zh hf;clear hr hf hw3;have fin:∀ w4,IsPR w4 r q.2.fail/\Kept (λi=>i=r) w3 w4->RetP r w R (.returned v3) w4:=λw4 h=>by
   obtain⟨h1,h2⟩:=h;rw[HR.out];exact⟨v3,rfl,HO3.out.keptR h2 hlt,h1,Za3 HK3.out h2⟩
  have FIN:=Zh fin;clear fin;by_cases hd:la=d
  ·have d1:(la != d)=false:=by simpa using hd
   have d2:((n3:Int) != E)=true:=by
    rcases HF.out with h1|h1
    ·exact absurd hd h1
    ·simpa using h1
   clear hd;go_wp2_with fail;refine(Zdz w3 r q.2 HP3.out).mono ?_;rintro e w4 ⟨rfl,h4⟩;have H4:=Zh h4;clear h4;go_wp2;go_ret;exact FIN.out _ H4.out
  ·have d1:(la != d)=true:=by simpa using hd
   clear hd;go_wp2_with fail;refine(Zdz w3 r q.2 HP3.out).mono ?_;rintro e w4 ⟨rfl,h4⟩;have H4:=Zh h4;clear h4;go_wp2;go_ret;exact FIN.out _ H4.out
 ·have hr:=HR.out
  rw[Yaf hf]at hr;have HR:=Zh hr;have d1:(la != d)=false:=by
   rw[bne_eq_false_iff_eq];rcases Decidable.em (la=d)with h1|h1
   ·exact h1
   ·exact absurd (.inl h1) hf
  have d2:((n3:Int) != E)=false:=by
   rw[bne_eq_false_iff_eq];rcases Decidable.em ((n3:Int)=E)with h1|h1
   ·exact h1
   ·exact absurd (.inr h1) hf
  clear hr hf hw3;go_wp2;go_ret;rw[HR.out];exact⟨v3,rfl,HO3.out,HP3.out,HK3.out⟩
theorem RetP.drew {r:Nat} {w w':World} {x:List Pst×PR} {e:Ending} (h:RetP r w.drew x e w'):RetP r w x e w':=by
 obtain⟨v,h1,h2,h3,h4⟩:=h;exact⟨v,h1,h2,h3,⟨h4.os,h4.tape,h4.output,h4.size,h4.block⟩⟩
theorem Blk.keptR {w w':World} {r g:Nat} {t:TypeId} {cs:Array Value} (h:Blk w g t cs) (hk:Kept (λi=>i=r) w w') (hg:g≠r):Blk w' g t cs:=h.kept hk hg
theorem Zsw {w:World} {r ga ge g7 g8 g9 a e fo fa:Nat} {co ca:Array Value} {A:Option Addr} {k c:Nat} {x:List Pst×PR} (ha:Blk w ga 3 #[.int .i64 a]) (he:Blk w ge 3 #[.int .i64 e]) (h7:Blk w g7 84 #[.func (.func fo) #[] co]) (h8:Blk w g8 246 #[.func (.func fa) #[] ca]) (h9:Blk w g9 52 #[.slice A k c]) (hk:0<k)
  (hin:Calls Tryz.prog 168 #[.int .i64 a,.int .i64 e,.func (.func fo) #[] co,.func (.func fa) #[] ca,.slice (Zak A 1 c) (k-1) (c-1)] w.drew (RetP r w x)):
  Calls Tryz.prog 199 #[at0 ga,at0 ge,at0 g7,at0 g8,at0 g9] w (RetP r w x):=by
 have a0:=ha.drew.cell 0;have e0:=he.drew.cell 0;have f0:=h7.drew.cell 0;have r0:=h8.drew.cell 0;have s0:=h9.drew.cell 0;simp at a0 e0 f0 r0 s0;have hsl:∀ w,(Instr.slice 52 (.slice A k c) (some (.int .i64 1)) none none).run Tryz.prog w=.ok (.slice (Zak A 1 c) (k-1) (c-1)) w:=λw=>by
  have:=Zoq w A k c 1 (by omega)
  simpa using this
 have HIN:=Zh hin;clear ha he h7 h8 h9 hin;unfold at0;go_enter Tryz.func199,Tryz.ntmps199;go_wp2_with fail;go_still_tail 6,(by kernel_rfl);change wpList _ _ _ _ _ w.drew;go_wp2_with fail;refine HIN.out.mono ?_;rintro e w2 ⟨v,rfl,ho,hp,hk⟩;have HO:=Zh ho;have HP:=Zh hp;have HK:=Zh hk;clear ho hp hk;go_wp2;go_ret;exact⟨v,rfl,HO.out,HP.out,HK.out⟩
theorem Zs8 (r:Nat) (wB:World) (hrB:r<wB.heap.size) (fo fa:Nat) (co ca:Array Value) (ega:∀ args w,(callFunc fa args).run Tryz.prog w=.ok (.enter fa args) w) (ad:Addr) (har:ad.block≠r) (k c s:Nat) (hk:0<k) (hs0:0<s) (hs:s<=16) (hcell:wB.cell? ad=some (.int .i64 s))
  (f t:Nat) (ht:t<=4096) (P:Nat->Prop) (X:Nat->PR->List Pst×PR) (hP0:P f) (hPs:∀ a,P a->a<t->P (a+s)) (hXl:∀ q z,f+q*s<t+s->(runP X f s q z).1.length<=1000000)
  (hcl:∀ (w:World) (z:PR) (a ga ge g7 g8 g9:Nat),Kept (λi=>i=r) wB w->IsPR w r z->P a->a<t->wB.heap.size<=ga->wB.heap.size<=ge->wB.heap.size<=g7->wB.heap.size<=g8->wB.heap.size<=g9->Blk w ga 3 #[.int .i64 a]->Blk w ge 3 #[.int .i64 (min (a+s) t:Nat)]->Blk w g7 84 #[.func (.func fo) #[] co]->Blk w g8 246 #[.func (.func fa) #[] ca]->Blk w g9 52 #[.slice (some ad) k c]->
   Calls Tryz.prog fa (#[.int .i64 a,.int .i64 (min (a+s) t:Nat),.func (.func 199) #[] #[at0 ga,at0 ge,at0 g7,at0 g8,at0 g9]]++ca) w (RetP r w (X a z)))
  (K:Nat) (hK1:t<=f+K*s) (hK2:f+K*s<t+s)
  (w:World) (hw:Kept (λi=>i=r) wB w) (z:PR) (hz:IsPR w r z):
  Calls Tryz.prog 168 #[.int .i64 f,.int .i64 t,.func (.func fo) #[] co,.func (.func fa) #[] ca,.slice (some ad) k c] w (RetP r w (runP X f s K z)):=by
 obtain⟨i2,hi2,hx0,hx1,hx2⟩:=info_parts Zeq;have HC:=Zh hcell;have HW:=Zh hw;have HCL:=Zh hcl;have HPS:=Zh hPs;have HXL:=Zh hXl;have HP0:=Zh hP0;have HZ:=Zh hz;have hws:=hw.size;have d0:((k:Int)==0)=false:=beq_eq_false_iff_ne.2 (by omega);have HADR:=Zh har;have HK:Hid (∀ q,f+q*s<t+s->t<=f+q*s->q=K):=Zh λq h1 h2=>by
  rcases Nat.lt_trichotomy q K with h3|h3|h3
  ·have:(q+1)*s<=K*s:=Yak s h3
   rw[Nat.succ_mul]at this;omega
  ·exact h3
  ·have:(K+1)*s<=q*s:=Yak s h3
   rw[Nat.succ_mul]at this;omega
 have HKB:Hid (∀ q,f+q*s<t+s->f+q*s<t->f+(q+1)*s<t+s):=Zh λq _ h2=>by rw[Nat.succ_mul];omega
 have HMUL:Hid (∀ q,(q+1)*s=q*s+s):=Zh λq=>Nat.succ_mul q s;have HFK:Hid (f+0*s<t+s):=Zh (by
  rcases Yai K with h|h
  ·rw[h]at hK2;exact hK2
  ·rw[Nat.zero_mul]
   have:1*s<=K*s:=Yak s h;omega)
 clear hcell hw hcl hPs hXl hP0 hz har hK1 hK2;go_enter Tryz.func168,Tryz.ntmps168;go_wp2;go_loopw [11,13] (λv p wr=>∃ (q a g:Nat) (y:List Pst) (zz:PR),p=at0 g/\a=f+q*s/\P a/\a<t+s/\(y,zz)=runP X f s q z/\PostsO wr (w.heap.size+3) v y/\IsPR wr r zz/\(∀ i,v.ownBlock=some i->i≠g)/\w.heap.size+3<=g/\Blk wr g 3 #[.int .i64 a]/\Kept (λi=>i=r) w wr/\Blk wr w.heap.size 84 #[.func (.func fo) #[] co]/\Blk wr (w.heap.size+1) 246 #[.func (.func fa) #[] ca]/\Blk wr (w.heap.size+1+1) 52 #[.slice (some ad) k c]) (λ_ p wr=>t+16-Zfu wr p);case atStart=>
  have b1:=Blk.new w 84 #[.func (.func fo) #[] co];have b2:=Blk.new (w.alloc (.cells #[.func (.func fo) #[] co] 84)) 246 #[.func (.func fa) #[] ca];have b3:=Blk.new ((w.alloc (.cells #[.func (.func fo) #[] co] 84)).alloc (.cells #[.func (.func fa) #[] ca] 246)) 52 #[.slice (some ad) k c];have b4:=Blk.new (((w.alloc (.cells #[.func (.func fo) #[] co] 84)).alloc (.cells #[.func (.func fa) #[] ca] 246)).alloc (.cells #[.slice (some ad) k c] 52)) 3 #[.int .i64 (f:Int)];simp only[World.size_alloc]at b2 b3 b4;have hbw:Below w.heap.size w ((((w.alloc (.cells #[.func (.func fo) #[] co] 84)).alloc (.cells #[.func (.func fa) #[] ca] 246)).alloc (.cells #[.slice (some ad) k c] 52)).alloc (.cells #[.int .i64 (f:Int)] 3)):=((((Ybm _ w).alloc (Yar _) _).alloc (by simp) _).alloc (by simp;omega) _).alloc (by simp;omega) _;have hfk:=HFK.out;exact⟨0,f,w.heap.size+1+1+1,[],z,rfl,by rw[Nat.zero_mul];rfl,HP0.out,by rw[Nat.zero_mul]at hfk;exact hfk,rfl,PostsO.nil _ _,HZ.out.below hbw,(λi e=>by cases e),by omega,b4,Kept.below hbw,((b1.alloc _).alloc _).alloc _,(b2.alloc _).alloc _,b3.alloc _⟩
 case round=>
  obtain⟨q,a,g,y,zz,rfl,ha,hp,hat,hy,hO,hZZ,hne,hg,hG,hB,h7,h8,h9⟩:=hrel;have HA:=Zh ha;have HPA:=Zh hp;have HY:=Zh hy;have HO:=Zh hO;have HZZ:=Zh hZZ;have HNE:=Zh hne;have HGK:=Zh hG;have HB:=Zh hB;have H7:=Zh h7;have H8:=Zh h8;have H9:=Zh h9;have c0:=hG.cell 0;have c9:=h9.cell 0;have cs:wr.cell? ad=some (.int .i64 s):=((Za3 HW.out hB).cell (Ycb wB ad HC.out) HADR.out).trans HC.out;simp at c0 c9;have hXl:=HXL.out q z (by rw[<- ha];exact hat);rw[<- hy]at hXl;simp only at hXl;clear ha hp hy hO hZZ hne hG hB h7 h8 h9;obtain⟨R0,hR0,hR1,hR2⟩:=HO.out;obtain⟨Av,cv,hv⟩:=Zac hR1;subst hv;unfold at0;rcases Yab a t with hlt|hge
  ·have hlt':(a:Int)<(t:Int):=by omega
   obtain⟨E,hE⟩:=Ze (min (a+s) t);have hmin:∀ w ty,(Builtin.min_ #[3,3] ty #[.int .i64 ((a:Int)+(s:Int)),.int .i64 (t:Int)]).run Tryz.prog w=.ok (.int .i64 (E:Int)) w:=λw ty=>by
    rw[Lib.run_min_ints,show min ((a:Int)+(s:Int)) (t:Int)=(E:Int) by omega]
   have hw1:IntKind.i64.wrap ((a:Int)+(s:Int))=(a:Int)+(s:Int):=Ybo _ (by omega);have k0:(0:Int)<(k:Int):=by omega
   have a0:ad.add 0=ad:=by simp[Addr.add]
   have HE:=Zh hE;clear hE;have u0:(wr.alloc (.cells #[.int .i64 0] 3)).cell? ⟨g,0,none⟩=some (.int .i64 a):=(HGK.out.alloc _).cell 0;have u9:(wr.alloc (.cells #[.int .i64 0] 3)).cell? ⟨w.heap.size+1+1,0,none⟩=some (.slice (some ad) k c):=(H9.out.alloc _).cell 0;have us:(wr.alloc (.cells #[.int .i64 0] 3)).cell? ad=some (.int .i64 s):=Zag ((Ybm _ wr).alloc (Yar _) _) cs;clear hR0 hR1 hR2;go_wp2_with fail;go_region;obtain⟨W1,hW1⟩:=Ze ((wr.alloc (.cells #[.int .i64 (E:Int)] 3)).drew);rw[<- hW1];have hb1:Below wr.heap.size wr W1:=by rw[hW1];exact((Ybm _ wr).alloc (Yar _) _).drew
   have HEK:Hid (Blk W1 wr.heap.size 3 #[.int .i64 (E:Int)]):=Zh (by rw[hW1];exact(Blk.new _ _ _).drew);have HB1:=Zh (Za3 HB.out (Kept.below hb1));have HG1:=Zh (HGK.out.below hb1 HGK.out.lt);have H71:=Zh (H7.out.below hb1 H7.out.lt);have H81:=Zh (H8.out.below hb1 H8.out.lt);have H91:=Zh (H9.out.below hb1 H9.out.lt);have HO1:=Zh (HO.out.below hb1);have HZ1:=Zh (HZZ.out.below hb1);have HW1:=Zh (Za3 HW.out HB1.out);have hsz1:W1.heap.size=wr.heap.size+1:=by rw[hW1];simp
   have hbz:=HB.out.size;have k0:=HG1.out.cell 0;have k7:=H71.out.cell 0;have k8:=H81.out.cell 0;have ke:=HEK.out.cell 0;simp at k0 k7 k8 ke;have hx:=HCL.out W1 zz a g wr.heap.size w.heap.size (w.heap.size+1) (w.heap.size+1+1) HW1.out HZ1.out HPA.out hlt (by omega) (by omega) (by omega) (by omega) (by omega) HG1.out (by rw[<- HE.out];exact HEK.out) H71.out H81.out H91.out;rw[<- HE.out]at hx;unfold at0 at hx;have HX:=Zh hx;have hel:=HXL.out (q+1) z (by have:=HMUL.out q;have:=HA.out;omega);have hrn:runP X f s (q+1) z=(y++(X a zz).1,(X a zz).2):=by
    have h1:=HY.out;rw[runP,<- h1,<- HA.out]
   rw[hrn]at hel;simp only[Yaq]at hel;have HRN:=Zh hrn;obtain⟨x,hxe⟩:=Ze (X a zz);rw[<- hxe]at HX HRN hel;have hps:=HPS.out a HPA.out hlt;have HPN:=Zh hps;obtain⟨x1,x2⟩:=x;simp only at hel HRN;clear hW1 hb1 u0 u9 us hx hrn hxe hps HO;go_wp2_with fail;refine HX.out.mono ?_;rintro e w2 ⟨v2,rfl,ho2,hp2,hk2⟩;simp only at ho2 hp2;have hr1:r<w.heap.size:=by omega
   have HO2:=Zh (HO1.out.keptR hk2 (by omega));have HZ2:=Zh hp2;have HB2:=Zh (Za3 HB1.out hk2);have HG2:=Zh (HG1.out.keptR hk2 (by omega));have H72:=Zh (H71.out.keptR hk2 (by omega));have H82:=Zh (H81.out.keptR hk2 (by omega));have H92:=Zh (H91.out.keptR hk2 (by omega));have hsz2:=hk2.size;have hgz:=HGK.out.lt;obtain⟨R0,hR0,hR1,hR2⟩:=HO2.out;obtain⟨S0,hS0,hS1,hS2⟩:=ho2;obtain⟨A2,c2,rfl⟩:=Zac hS1;have hoc:=Zod hS1;have hdo:=Ztx hS0 hS2;have HR0:=Zh hR0;have HR1:=Zh hR1;have HR2:=Zh hR2;have HS0:=Zh hS0;have HS1:=Zh hS1;have HS2:=Zh hS2;have HOC:=Zh hoc;have HDO:=Zh hdo;have HAB:Hid (∀ g',(Value.slice Av y.length cv).ownBlock=some g'->g'<W1.heap.size):=Zh λg' e=>by
    obtain⟨T0,-,hT1,-⟩:=HO1.out;exact(hT1.lt g' e).2
   clear hp2 hk2 hR0 hR1 hR2 hS0 hS1 hS2 hoc hdo k0 k7 k8 ke c0 c9 cs;go_wp2_with (at_builtin;refine Zev _ rfl (.tmp 46) (.tmp 51) 56 rfl (w.heap.size+3) 62 i2 _ 2 32 Tryz.underlying56 hi2 hx0 hx1 hx2 rfl (by decide) _ y.length _ rfl HR1.out A2 x1.length c2 _ rfl HS1.out.1 HOC.out.1 HOC.out.2 HDO.out (by unfold maxLen;omega) (by omega) (by omega) ?_;intro v3 w3 hown3 hgrow3 hloc3;obtain⟨A3,c3,hv3⟩:=Zac hown3;subst hv3;have HO3:=Zh (PostsO.cat (base2:=W1.heap.size) (by omega) HAB.out HR0.out HS0.out HR2.out HS2.out hown3 hgrow3 hloc3);have HZ3:Hid (IsPR w3 r x2):=Zh (HZ2.out.grown hgrow3 (λi e=>by have:=(HR1.out.lt i e).1;omega));have HB3:=Zh (HB2.out.grown hgrow3 (λi e=>.inr (by have:=(HR1.out.lt i e).1;omega)));have HG3:=Zh (HG2.out.grown hgrow3 (λe=>HNE.out g e.symm rfl));have H73:=Zh (H72.out.grown hgrow3 (λe=>by have:=(HR1.out.lt _ e.symm).1;omega));have H83:=Zh (H82.out.grown hgrow3 (λe=>by have:=(HR1.out.lt _ e.symm).1;omega));have H93:=Zh (H92.out.grown hgrow3 (λe=>by have:=(HR1.out.lt _ e.symm).1;omega));have g0:w3.cell? ⟨g,0,none⟩=some (.int .i64 (a:Int)):=HG3.out.cell 0;have u9:(w3.alloc (.cells #[.int .i64 (a:Int)] 3)).cell? ⟨w.heap.size+1+1,0,none⟩=some (.slice (some ad) k c):=(H93.out.alloc _).cell 0;have us:(w3.alloc (.cells #[.int .i64 (a:Int)] 3)).cell? ad=some (.int .i64 (s:Int)):=((Za3 HW.out (HB3.out.alloc _)).cell (Ycb wB ad HC.out) HADR.out).trans HC.out;have hsz3:=HB3.out.size;have HL3:Hid (∀ i,(Value.slice A3 (y.length+x1.length) c3).ownBlock=some i->i<w3.heap.size):=Zh (λi e=>(hown3.lt i e).2);clear hown3 hgrow3 hloc3);go_region;go_wp2;go_roundw;case rel=>
    have hg3:=HG3.out.lt;have hbn:Below w3.heap.size w3 (w3.alloc (.cells #[.int .i64 ((a:Int)+(s:Int))] 3)).drew:=((Ybm _ w3).alloc (Yar _) _).drew;refine⟨q+1,a+s,w3.heap.size,y++x1,x2,rfl,by have:=HMUL.out q;have:=HA.out;omega,HPN.out,by omega,HRN.out.symm,HO3.out.below hbn,HZ3.out.below hbn,?_,by omega,?_,Za3 HB3.out (Kept.below hbn),(H73.out.alloc _).drew,(H83.out.alloc _).drew,(H93.out.alloc _).drew⟩
    ·intro i e
     have:=HL3.out i e
     omega
    ·have h1:=Blk.new w3 3 #[.int .i64 ((a:Int)+(s:Int))]
     rw[show((a+s:Nat):Int)=(a:Int)+(s:Int) by omega];exact h1.drew
   case measure=>
    have h1:=Zg5 ((Blk.new w3 3 #[.int .i64 ((a:Int)+(s:Int))]).drew);have h2:=Zg5 HGK.out;unfold at0 at h1 h2;show t+16-Zfu _ _<t+16-Zfu _ _;rw[h1,h2];omega
  ·have hz:¬ ((a:Int)<(t:Int)):=by omega
   have hfin:(y,zz)=runP X f s K z:=by rw[HY.out,HK.out q (by rw[<- HA.out];exact hat) (by rw[<- HA.out];exact hge)]
   have HF:=Zh hfin;clear hfin hR0 hR1 hR2;go_wp2;go_ret;rw[<- HF.out];exact⟨_,rfl,HO.out.le (by omega),HZZ.out,HB.out⟩
theorem Zgl {X:Nat->PR->List Pst×PR} {m:Nat} (h:∀ a z,(X a z).1.length<=m) (f s:Nat):∀ q z,(runP X f s q z).1.length<=q*m
 | 0,z=>by simp[runP]
 | q+1,z=>by
  have h1:=Zgl h f s q z;have h2:=h (f+q*s) (runP X f s q z).2;rw[runP,Nat.succ_mul];simp only[Yaq];omega
theorem Zkv (z:PR):(Zd8 z).1.length<=1:=by
 unfold Zd8 Zpv;split<;>simp
theorem Zto (a t:Nat) (z:PR):(run0 a t z).1.length<=t-a:=by
 have:=Zgl (X:=λ_=>Zd8) (m:=1) (λ_ z=>Zkv z) a 1 (t-a) z
 unfold run0;omega
theorem Qcf (a t:Nat) (ht:t<=a+16) (z:PR):(run1 a t z).1.length<=16:=by
 have:=Zgl (X:=λi=>Ze7 (run0 i (min (i+4) t))) (m:=4) (λi z=>by
  have:=Zto i (min (i+4) t) (rNum (rDoc z).2 (rDoc z).2.left.length).2
  show(run0 i (min (i+4) t) _).1.length<=4;omega) a 4 ((t-a+3)/4) z
 unfold run1;omega
theorem Zx9 (X:Nat->PR->List Pst×PR) (f s q:Nat) (z zz:PR) (y:List Pst) (h:(y,zz)=runP X f s q z):runP X f s (q+1) z=(y++(X (f+q*s) zz).1,(X (f+q*s) zz).2):=by rw[runP,<- h]
theorem Zz2 (r:Nat) (wB:World) (hrB:r<wB.heap.size) (fo fa:Nat) (co ca:Array Value) (ego:∀ args w,(callFunc fo args).run Tryz.prog w=.ok (.enter fo args) w) (A:Option Addr) (c:Nat)
  (f t:Nat) (hft:f<=t) (ht:t<=4096)
  (hon:∀ (w:World) (z:PR) (i:Nat),Kept (λi=>i=r) wB w->IsPR w r z->f<=i->i<t->Calls Tryz.prog fo (#[.int .i64 i]++co) w (RetP r w (Zd8 z)))
  (w:World) (hw:Kept (λi=>i=r) wB w) (z:PR) (hz:IsPR w r z):
  Calls Tryz.prog 168 #[.int .i64 f,.int .i64 t,.func (.func fo) #[] co,.func (.func fa) #[] ca,.slice A 0 c] w (RetP r w (run0 f t z)):=by
 obtain⟨i2,hi2,hx0,hx1,hx2⟩:=info_parts Zeq;have HW:=Zh hw;have HON:=Zh hon;have HZ:=Zh hz;have hws:=hw.size;clear hw hon hz;go_enter Tryz.func168,Tryz.ntmps168;go_wp2;go_loopw [11,12] (λv i wr=>∃ (k:Nat) (y:List Pst) (zz:PR),f+k<=t/\i=.int .i64 (f+k:Nat)/\(y,zz)=runP (λ_=>Zd8) f 1 k z/\PostsO wr (w.heap.size+3) v y/\IsPR wr r zz/\Kept (λi=>i=r) w wr/\w.heap.size+3<=wr.heap.size/\Blk wr w.heap.size 84 #[.func (.func fo) #[] co]) (λ_ i _=>t-(intOf i).toNat);case atStart=>
  have b1:=Blk.new w 84 #[.func (.func fo) #[] co];have hbw:Below w.heap.size w (((w.alloc (.cells #[.func (.func fo) #[] co] 84)).alloc (.cells #[.func (.func fa) #[] ca] 246)).alloc (.cells #[.slice A 0 c] 52)):=(((Ybm _ w).alloc (Yar _) _).alloc (by simp) _).alloc (by simp;omega) _;exact⟨0,[],z,by omega,rfl,rfl,PostsO.nil _ _,HZ.out.below hbw,Kept.below hbw,by simp,(b1.alloc _).alloc _⟩
 case round=>
  obtain⟨k,y,zz,hk,rfl,hy,hO,hZZ,hB,hsz,h7⟩:=hrel;have HY:=Zh hy;have HO:=Zh hO;have HZZ:=Zh hZZ;have HB:=Zh hB;have H7:=Zh h7;have c7:=h7.cell 0;simp at c7;have hyl:=Zgl (X:=λ_=>Zd8) (m:=1) (λ_ z=>Zkv z) f 1 k z;rw[<- hy]at hyl;simp only at hyl;have hy4:y.length<=4096:=by omega
  clear hy hO hZZ hB h7 hyl;obtain⟨R0,hR0,hR1,hR2⟩:=HO.out;obtain⟨Av,cv,hv⟩:=Zac hR1;subst hv;clear hR0 hR1 hR2;obtain⟨i,hi'⟩:=Ze (f+k);rw[<- hi']at hk ⊢;rcases Yab i t with hlt|hge
  ·have hlt':(i:Int)<(t:Int):=by omega
   have hw5:IntKind.i64.wrap ((i:Int)+1)=(i:Int)+1:=Ybo _ (by omega);have hx:=HON.out wr zz i (Za3 HW.out HB.out) HZZ.out (by omega) hlt;have hrn:=Zx9 (λ_=>Zd8) f 1 k z zz y HY.out;have hxl:=Zkv zz;obtain⟨x,hxe⟩:=Ze (Zd8 zz);rw[<- hxe]at hx hrn hxl;obtain⟨x1,x2⟩:=x;simp only at hrn hxl;have HX:=Zh hx;have HRN:=Zh hrn;have HI:=Zh hi';clear hx hrn hxe hi';go_wp2_with fail;refine HX.out.mono ?_;rintro e w2 ⟨v2,rfl,ho2,hp2,hk2⟩;simp only at ho2 hp2;have HO2:=Zh (HO.out.keptR hk2 (by omega));have HZ2:=Zh hp2;have HB2:=Zh (Za3 HB.out hk2);have H72:=Zh (H7.out.keptR hk2 (by omega));have hsz2:=hk2.size;obtain⟨R0,hR0,hR1,hR2⟩:=HO2.out;obtain⟨S0,hS0,hS1,hS2⟩:=ho2;obtain⟨A2,c2,rfl⟩:=Zac hS1;have hoc:=Zod hS1;have hdo:=Ztx hS0 hS2;have HR0:=Zh hR0;have HR1:=Zh hR1;have HR2:=Zh hR2;have HS0:=Zh hS0;have HS1:=Zh hS1;have HS2:=Zh hS2;have HOC:=Zh hoc;have HDO:=Zh hdo;have HAB:Hid (∀ g',(Value.slice Av y.length cv).ownBlock=some g'->g'<wr.heap.size):=Zh λg' e=>by
    obtain⟨T0,-,hT1,-⟩:=HO.out;exact(hT1.lt g' e).2
   clear hp2 hk2 hR0 hR1 hR2 hS0 hS1 hS2 hoc hdo c7 HO;go_wp2_with (at_builtin;refine Zev _ rfl (.tmp 24) (.tmp 27) 56 rfl (w.heap.size+3) 62 i2 _ 2 32 Tryz.underlying56 hi2 hx0 hx1 hx2 rfl (by decide) _ y.length _ rfl HR1.out A2 x1.length c2 _ rfl HS1.out.1 HOC.out.1 HOC.out.2 HDO.out (by unfold maxLen;omega) (by omega) (by omega) ?_;intro v3 w3 hown3 hgrow3 hloc3;have HO3:=Zh (PostsO.cat (base2:=wr.heap.size) (by omega) HAB.out HR0.out HS0.out HR2.out HS2.out hown3 hgrow3 hloc3);have HZ3:Hid (IsPR w3 r x2):=Zh (HZ2.out.grown hgrow3 (λi e=>by have:=(HR1.out.lt i e).1;omega));have HB3:=Zh (HB2.out.grown hgrow3 (λi e=>.inr (by have:=(HR1.out.lt i e).1;omega)));have H73:=Zh (H72.out.grown hgrow3 (λe=>by have:=(HR1.out.lt _ e.symm).1;omega));have hsz3:=hgrow3.size;clear hown3 hgrow3 hloc3);go_roundw;case rel=>
    exact⟨k+1,y++x1,x2,by have:=HI.out;omega,by have:=HI.out;go_num,HRN.out.symm,HO3.out,HZ3.out,HB3.out,by omega,H73.out⟩
   case measure=>simp[intOf];omega
  ·have hz:¬ ((i:Int)<(t:Int)):=by omega
   have hfin:run0 f t z=(y,zz):=by unfold run0;rw[show t-f=k by omega,HY.out]
   have HF:=Zh hfin;clear hfin hi';go_wp2;go_ret;rw[HF.out];exact⟨_,rfl,HO.out.le (by omega),HZZ.out,HB.out⟩
theorem Zzq (w:World) (r b:Nat) (z:PR) (h:IsPR w r z) (hb:Blk w b 241 #[at0 r]) (i:Int):Calls Tryz.prog 163 (#[.int .i64 i]++#[at0 b]) w (RetP r w (Zd8 z)):=by
 have HC:=Zh (Zw7 w r z h);have c0:=hb.cell 0;simp at c0;obtain⟨R,hR⟩:=Ze (Zd8 z);rw[<- hR]at HC ⊢;clear h hb hR;unfold at0 at *;simp only[List.append_toArray,Yac,Yad];go_enter Tryz.func163,Tryz.ntmps163;go_wp2_with fail;refine HC.out.mono ?_;rintro e w2 ⟨v,rfl,ho,hp,hk⟩;have HO:=Zh ho;have HP:=Zh hp;have HK:=Zh hk;clear ho hp hk;go_wp2;go_ret;exact⟨v,rfl,HO.out,HP.out,HK.out⟩
theorem Zjl (w:World) (r b:Nat) (z:PR) (h:IsPR w r z) (hb:Blk w b 241 #[at0 r]) (f t:Int) (inside:PR->List Pst×PR) (cap:Array Value)
  (hin:∀ w1 z,Kept (λi=>i=r) w w1->IsPR w1 r z->Calls Tryz.prog 199 cap w1 (RetP r w1 (inside z))):
  Calls Tryz.prog 165 (#[.int .i64 f,.int .i64 t,.func (.func 199) #[] cap]++#[at0 b]) w (RetP r w (Ze7 inside z)):=by
 have HC:=Zh (Zwj w r z h inside 199 cap (enters_of Tryz.func199 (by kernel_rfl) rfl) hin);have c0:=hb.cell 0;simp at c0;obtain⟨R,hR⟩:=Ze (Ze7 inside z);rw[<- hR]at HC ⊢;clear h hb hR hin;unfold at0 at *;simp only[List.append_toArray,Yac,Yad];go_enter Tryz.func165,Tryz.ntmps165;go_wp2_with fail;refine HC.out.mono ?_;rintro e w2 ⟨v,rfl,ho,hp,hk⟩;have HO:=Zh ho;have HP:=Zh hp;have HK:=Zh hk;clear ho hp hk;go_wp2;go_ret;exact⟨v,rfl,HO.out,HP.out,HK.out⟩
theorem Qaq (r:Nat) (wB:World) (hrB:r<wB.heap.size) (b:Nat) (hbr:b≠r) (hb:Blk wB b 241 #[at0 r]) (ad:Addr) (har:ad.block≠r) (hcell:wB.cell? ad=some (.int .i64 (4:Nat)))
  (f t:Nat) (hft:f<=t) (ht16:t<=f+16) (ht:t<=4096) (w:World) (hw:Kept (λi=>i=r) wB w) (z:PR) (hz:IsPR w r z):
  Calls Tryz.prog 168 #[.int .i64 f,.int .i64 t,.func (.func 163) #[] #[at0 b],.func (.func 165) #[] #[at0 b],.slice (some ad) 1 1] w (RetP r w (run1 f t z)):=by
 refine Zs8 r wB hrB 163 165 #[at0 b] #[at0 b] (enters_of Tryz.func165 (by kernel_rfl) rfl) ad har 1 1 4 (by omega) (by omega) (by omega) hcell f t ht (λ_=>True) (λi=>Ze7 (run0 i (min (i+4) t))) trivial (λ_ _ _=>trivial) (λq z hq=>?_) ?_ ((t-f+3)/4) (by omega) (by omega) w hw z hz
 ·have:=Zgl (X:=λi=>Ze7 (run0 i (min (i+4) t))) (m:=4) (λi z=>by
   have:=Zto i (min (i+4) t) (rNum (rDoc z).2 (rDoc z).2.left.length).2
   show(run0 i (min (i+4) t) _).1.length<=4;omega) f 4 q z
  omega
 ·intro w1 z1 a ga ge g7 g8 g9 hw1 hz1 _ hat la le l7 l8 l9 ba be b7 b8 b9
  obtain⟨E,hE⟩:=Ze (min (a+4) t);rw[<- hE]at be ⊢;refine Zjl w1 r b z1 hz1 (hb.keptR hw1 hbr) a E _ _ λw2 z2 hk2 hz2=>?_;refine Zsw (ba.keptR hk2 (by omega)) (be.keptR hk2 (by omega)) (b7.keptR hk2 (by omega)) (b8.keptR hk2 (by omega)) (b9.keptR hk2 (by omega)) (by omega) ?_;have hkd:Kept (λi=>i=r) wB w2.drew:=(Za3 hw1 hk2).drew;exact(Zz2 r wB hrB 163 165 #[at0 b] #[at0 b] (enters_of Tryz.func163 (by kernel_rfl) rfl) _ _ a E (by omega) (by omega) (λw3 z3 i hk3 hz3 _ _=>Zzq w3 r b z3 hz3 (hb.keptR hk3 hbr) i) w2.drew hkd z2 (hz2.below (Zaf (Ybm _ w2) 1))).mono λ_ _ h=>h.drew
theorem Qai (r:Nat) (wB:World) (hrB:r<wB.heap.size) (b:Nat) (hbr:b≠r) (hb:Blk wB b 241 #[at0 r]) (gs:Nat) (har:gs≠r) (hs:Blk wB gs 3 #[.int .i64 16,.int .i64 4])
  (t:Nat) (ht:t<=4096) (w:World) (hw:Kept (λi=>i=r) wB w) (z:PR) (hz:IsPR w r z):
  Calls Tryz.prog 168 #[.int .i64 (0:Nat),.int .i64 t,.func (.func 163) #[] #[at0 b],.func (.func 165) #[] #[at0 b],.slice (some ⟨gs,0,none⟩) 2 2] w (RetP r w (run2 0 t z)):=by
 refine Zs8 r wB hrB 163 165 #[at0 b] #[at0 b] (enters_of Tryz.func165 (by kernel_rfl) rfl) ⟨gs,0,none⟩ har 2 2 16 (by omega) (by omega) (by omega) (hs.cell 0) 0 t ht (λ_=>True) (λi=>Ze7 (run1 i (min (i+16) t))) trivial (λ_ _ _=>trivial) (λq z hq=>?_) ?_ ((t-0+15)/16) (by omega) (by omega) w hw z hz
 ·have:=Zgl (X:=λi=>Ze7 (run1 i (min (i+16) t))) (m:=16) (λi z=>by
   have:=Qcf i (min (i+16) t) (by omega) (rNum (rDoc z).2 (rDoc z).2.left.length).2
   show(run1 i (min (i+16) t) _).1.length<=16;omega) 0 16 q z
  omega
 ·intro w1 z1 a ga ge g7 g8 g9 hw1 hz1 _ hat la le l7 l8 l9 ba be b7 b8 b9
  obtain⟨E,hE⟩:=Ze (min (a+16) t);rw[<- hE]at be ⊢;refine Zjl w1 r b z1 hz1 (hb.keptR hw1 hbr) a E _ _ λw2 z2 hk2 hz2=>?_;refine Zsw (ba.keptR hk2 (by omega)) (be.keptR hk2 (by omega)) (b7.keptR hk2 (by omega)) (b8.keptR hk2 (by omega)) (b9.keptR hk2 (by omega)) (by omega) ?_;have hkd:Kept (λi=>i=r) wB w2.drew:=(Za3 hw1 hk2).drew;rw[Zkb _ _ (by omega),show(⟨gs,0,none⟩:Addr).add 1=⟨gs,1,none⟩ by simp[Addr.add]];exact(Qaq r wB hrB b hbr hb ⟨gs,1,none⟩ har (hs.cell 1) a E (by omega) (by omega) (by omega) w2.drew hkd z2 (hz2.below (Zaf (Ybm _ w2) 1))).mono λ_ _ h=>h.drew
theorem Zti (w:World) (A:Option Addr) (n c:Nat) (b:Nm) (hb:BytesIn w A n b) (hc:n<=c) (hn:n<=1099511627776):Calls Tryz.prog 121 #[.slice A n c] w (Zkn w (getP b)):=by
 have hbl:b.length=n:=by have:=hb.2.1.len;simpa using this
 rw[<- Qef];obtain⟨G,hG⟩:=Ze (getM b);rw[<- hG];unfold getM rAll at hG;obtain⟨w1,hw1⟩:=Ze ((w.alloc (.cells #[.slice A n c,.int .i64 (-1),.bool false] 243)).alloc (.cells #[at0 w.heap.size] 241));have hb1:Below w.heap.size w w1:=by rw[hw1];exact((Ybm _ w).alloc (Yar _) _).alloc (by simp) _
 have bR:Blk w1 w.heap.size 243 #[.slice A n c,.int .i64 (-1),.bool false]:=by rw[hw1];exact(Blk.new _ _ _).alloc _
 have bP:Blk w1 (w.heap.size+1) 241 #[at0 w.heap.size]:=by
  have:=Blk.new (w.alloc (.cells #[.slice A n c,.int .i64 (-1),.bool false] 243)) 241 #[at0 w.heap.size]
  rw[World.size_alloc]at this;rw[hw1];exact this
 have HP1:Hid (IsPR w1 w.heap.size (Zdn b)):=Zh ⟨⟨A,n,c,bR,hb.below hb1,hc,hn,hb.2.2⟩,by unfold Zdn;simp,by unfold Zdn;simp⟩;have HB1:=Zh hb1;have HBP:=Zh bP;have hs1:w1.heap.size=w.heap.size+2:=by rw[hw1];simp
 have c1:=bP.cell 0;simp at c1;have HNUM:=Zh (Zhs w1 w.heap.size (Zdn b) HP1.out 4096);have hkb:=Zry (Zdn b) 4096;obtain⟨z,hz⟩:=Ze (rNum (Zdn b) 4096);rw[<- hz]at hG HNUM hkb;obtain⟨m,z1⟩:=z;simp only at hG HNUM hkb;have HG:=Zh hG;have HS1:=Zh hs1;have HW1:=Zh hw1;have hwm:IntKind.i64.wrap (m:Int)=(m:Int):=Ybo _ (by omega);clear hb hbl hG hw1 hb1 bR bP hz hs1;unfold at0 at *;go_enter Tryz.func121,Tryz.ntmps121;go_wp2_with fail;rw[<- HW1.out];refine HNUM.out.mono ?_;rintro e w2 ⟨rfl,hp2,hk2⟩;have HK2:=Zh hk2;have hz2:=hk2.size;have hb2:=HBP.out.keptR hk2 (by omega);have HB2:=Zh hb2;have bs:=Blk.new w2 3 #[.int .i64 16,.int .i64 4];have hbs:Below w2.heap.size w2 (w2.alloc (.cells #[.int .i64 16,.int .i64 4] 3)):=(Ybm _ w2).alloc (Yar _) _;have hsz:=HS1.out;have hlv:=Qai w.heap.size (w2.alloc (.cells #[.int .i64 16,.int .i64 4] 3)) (by simp;omega) (w.heap.size+1) (by omega) (hb2.below hbs hb2.lt) w2.heap.size (by omega) bs m (by omega) _ (Kept.refl _ _) z1 (hp2.below hbs);unfold at0 at hlv;obtain⟨Q,hQ⟩:=Ze (run2 0 m z1);have hg:=HG.out;rw[<- hQ]at hlv hg;have HG:=Zh hg;have HLV:=Zh hlv;have HKs:=Zh (Za3 hk2 (Kept.below hbs));have HBs:=Zh (hb2.below hbs hb2.lt);clear hk2 hp2 hb2 bs hbs hlv hQ hg c1 HNUM hsz;go_wp2_with fail;refine HLV.out.mono ?_;rintro e w3 ⟨v3,rfl,ho3,hp3,hk3⟩;have HK3:=Zh (Za3 HKs.out hk3);have hb3:=HBs.out.keptR hk3 (by omega);have hsz:=HS1.out;have HO3:Hid (PostsO w3 w.heap.size v3 Q.1):=Zh (ho3.le (by simp;omega));obtain⟨A3,n3,c3,q1,q2,q3,q4,q5⟩:=hp3.at_;have hl3:Q.2.left.length=n3:=by have:=q2.2.1.len;simpa using this
 have t0:=q1.cell 0;have t2:=q1.cell 2;have t1:=hb3.cell 0;simp at t0 t1 t2;have hg:=HG.out;rw[hl3]at hg;obtain⟨bd,hbd⟩:=Ze Q.2.bad;rw[<- hbd]at hg t2;have HG:=Zh hg;have HBF:Hid (Below w.heap.size w w3):=Zh ⟨HK3.out.os.trans HB1.out.os,HK3.out.tape.trans HB1.out.tape,HK3.out.output.trans HB1.out.output,Ybu HB1.out.size HK3.out.size,λi hi=>(HK3.out.block i (by omega) (by omega)).trans (HB1.out.block i hi)⟩;clear ho3 hp3 hk3 hb3 q1 q2 q3 q5 hl3 hg hbd hsz;cases bd with
 | true=>
  have hg:=HG.out;rw[Yag (.inl rfl)]at hg;have HG:=Zh hg;clear hg;go_wp2;go_ret2;rw[HG.out];exact⟨_,rfl,PostsO.nil _ _,HBF.out⟩
 | false=>
  by_cases h0:0<n3
  ·have hg:=HG.out
   rw[Yag (.inr h0)]at hg;have HG:=Zh hg;have d1:decide ((0:Int)<(n3:Int))=true:=Yb0 (by omega);have d1':(0:Int)<(n3:Int):=by omega
   clear hg;go_wp2;go_ret2;rw[HG.out];exact⟨_,rfl,PostsO.nil _ _,HBF.out⟩
  ·have hg:=HG.out
   rw[Yaf (by simp;omega)]at hg;have HG:=Zh hg;have d1:decide ((0:Int)<(n3:Int))=false:=Ybt (by omega);have d1':¬ (0:Int)<(n3:Int):=by omega
   clear hg;go_wp2;go_ret2;rw[HG.out];exact⟨v3,rfl,HO3.out,HBF.out⟩
end
section
def Zdv (l:List Pst) (P:Nat):List UInt8:=cat (lin l) P (l.length-P)
def endP (l:List Pst) (P m:Nat):Nat:=min l.length (P+m)
def inB (l:List Pst) (P:Nat):List UInt8:=cat (Zbh l) P (endP l P 4-P)
def inG (l:List Pst) (P:Nat):List UInt8:=cat (linB l) P (endP l P 16-P)
def Zo5 (l:List Pst) (P:Nat):List UInt8:=Zfy l P++(inB l P++Zdv l (P+4))
theorem Ztj {l:List Pst} {P m:Nat} (h:P<l.length):Zdv l P=cat (lin l) P (endP l P m-P)++Zdv l (P+m):=by
 unfold Zdv endP;rcases Yab l.length (P+m)with h1|h1
 ·rw[show l.length-(P+m)=0 by omega,show min l.length (P+m)-P=l.length-P by omega]
  simp[cat]
 ·have:=Zhp (lin l) P m (l.length-(P+m))
  rw[show m+(l.length-(P+m))=l.length-P by omega]at this;rw[show min l.length (P+m)-P=m by omega];exact this
theorem Zi6 {l:List Pst} {P:Nat} (h:P<l.length) (h4:P % 4=0):Zdv l P=(if P % 16=0 then Zge l P else [])++Zo5 l P:=by
 rw[Ztj (m:=4) h];unfold Zo5;rw[<- Yao (Zfy l P),<- Yao (if P % 16=0 then Zge l P else [])];congr 1;have hk:0<endP l P 4-P:=by unfold endP;omega
 have hk4:endP l P 4-P<=4:=by unfold endP;omega
 unfold inB;rw[<- Zh1 l h4 hk hk4];obtain⟨k,hk'⟩:∃ k,endP l P 4-P=k+1:=⟨endP l P 4-P-1,by omega⟩
 rw[hk',Zen,Zen,lin,Yao];congr 2;exact Zky λj h1 h2=>by rw[lin,Yaf (by omega)];rfl
theorem Zu7 {l:List Pst} {P:Nat} (h:P<l.length) (h16:P % 16=0):Zo5 l P=inG l P++Zdv l (P+16):=by
 have h1:=Zi6 h (by omega);rw[Yag h16,Ztj (m:=16) h]at h1;have hk:0<endP l P 16-P:=by unfold endP;omega
 have hk4:endP l P 16-P<=16:=by unfold endP;omega
 rw[Zh8 l h16 hk hk4,Yao]at h1;exact(List.append_cancel_left h1).symm
def gapP (l:List Pst) (P m:Nat):Nat:=(Zaq l (endP l P m)-Zaq l P-1).toNat
theorem Zj1 {l:List Pst} {P m:Nat} (h:P<l.length) (hm:0<m):Zaq l (endP l P m)=(pAt l (endP l P m-1)).1:=by
 unfold Zaq;rw[Yaf (by unfold endP;omega)]
theorem Zx2 {l:List Pst} (hV:ValidP l) {P E:Nat} (h1:P<E) (h2:E<=l.length):Zaq l P<Zaq l E:=by
 have h3:=hV.up P (by omega);have h4:=Zqi hV (show P<=E-1 by omega) (by omega);rw[show Zaq l E=(pAt l (E-1)).1 by unfold Zaq;rw[Yaf (by omega)]];omega
theorem Qe0 {l:List Pst} (hV:ValidP l) {P m:Nat} (h:P<l.length) (hm:0<m):Zaq l P+1+(gapP l P m:Int)=Zaq l (endP l P m)/\gapP l P m<2 ^ 40:=by
 have h1:=Zx2 hV (P:=P) (E:=endP l P m) (by unfold endP;omega) (by unfold endP;omega);have h2:=hV.last (i:=P) (by omega);have h3:=hV.last (i:=endP l P m) (by unfold endP;omega);unfold gapP;omega
theorem Zu3 {l:List Pst} {P:Nat} (h:P<l.length) (h16:P % 16=0):Zdv l P=putL (gapP l P 16)++(putL (inG l P).length++Zo5 l P):=by
 rw[Zi6 h (by omega),Yag h16];unfold Zge Zdl gapP;rw[Zj1 h (by omega),Yao];rfl
theorem Zt4 {l:List Pst} {P:Nat} (h:P<l.length):Zo5 l P=putL (gapP l P 4)++(putL (inB l P).length++(inB l P++Zdv l (P+4))):=by
 unfold Zo5 Zfy Zdl gapP;rw[Zj1 h (by omega),Yao];rfl
theorem Zyf {l:List Pst} {P:Nat} (h:P<l.length) (h4:P % 4=0) (h16:P % 16≠0):Zdv l P=Zo5 l P:=by
 rw[Zi6 h h4,Yaf h16];rfl
theorem Qdr {l:List Pst} (hV:ValidP l) {P:Nat} (h:P<l.length):(inB l P).length<=360000:=by
 have:=Zd1 hV (i:=P) (k:=endP l P 4-P) (by unfold endP;omega)
 unfold inB;have h2:endP l P 4-P<=4:=by unfold endP;omega
 omega
theorem Qc8 {l:List Pst} (hV:ValidP l) {P:Nat} (h:P<l.length):(inG l P).length<=1440320:=by
 have:=Zd2 hV (i:=P) (k:=endP l P 16-P) (by unfold endP;omega)
 unfold inG;have h2:endP l P 16-P<=16:=by unfold endP;omega
 omega
theorem Zp2 (l:List Pst) (P m:Nat):Zaq l (min (P+m) l.length)=Zaq l (endP l P m):=by unfold endP;rw[Nat.min_comm]
theorem Zyo {l:List Pst} (hV:ValidP l) {P m:Nat} {d:Int} (h:P<l.length) (hm:0<m) (hd:Zaq l (endP l P m)<d):∀ i,i<endP l P m->(pAt l i).1<d:=λi hi=>by
 rw[Zj1 h hm]at hd;have:=Zqi hV (show i<=endP l P m-1 by omega) (by unfold endP;omega)
 omega
theorem Zkr {l:List Pst} {x y i:Nat} (h:i<y-x):pAt (sl l x y) i=pAt l (x+i):=by
 unfold sl;rw[Zz8 h,Qbn]
theorem Zog {l:List Pst} {x y:Nat} (h:y<=l.length):(sl l x y).length=y-x:=by
 unfold sl;rw[Ycc,Yas];omega
theorem Zxk {l:List Pst} {x y k:Nat}:(sl l x y).drop k=sl l (x+k) y:=by
 unfold sl;rw[List.drop_take,Ya1,show y-x-k=y-(x+k) by omega]
end
end Go.Proofs.YthcjikpabpgpfaaGreat
