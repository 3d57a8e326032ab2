import Derived.Test.YthcjikpabpgpfaaGreatZp10
import Derived.Test.YthcjikpabpgpfaaGreatZp4
import Derived.Test.YthcjikpabpgpfaaGreatZp9
import Derived.Deep.RegionHeld3
import Derived.StillTailTactics
import Derived.RegionTactic
import Derived.Shelf.Abstract
set_option linter.unusedSimpArgs false
set_option maxHeartbeats 16000000
set_option maxRecDepth 100000
namespace Go.Proofs.YthcjikpabpgpfaaGreat
open Go.RowKit Go.Maps Go.WideMaps
theorem Zq2 {w:World} {F:Nat->Prop} {b:Nat} {L:List MDoc} (h:M0 w F b L) (hW:MWF L) (hT:totT L<=20000):Calls Tryz.prog 31 #[.pointer (some ⟨b,0,none⟩)] w (Zg6 w (Zas L)):=by
 obtain⟨h1,h2,mb,h3,h4⟩:=h;obtain⟨D,hM,hD⟩:=h4.own;have c0:=h3.cell 0;simp only[lz0,lz1]at c0;have hmax:Maps.size D<=maxLen:=by have:=hM.size_le;unfold maxLen;omega
 have hbytes:Maps.size D*8<=140737488355328:=by have:=hM.size_le;omega
 have hup:=Zna L;have hlen:=Zeh L;have hfit:∀ x∈Zas L,-9223372036854775808<=x/\x<=9223372036854775807:=λx hx=>by
  obtain⟨y,hy,h5⟩:=terms_mem.1 hx;have h6:=(hW.ok y hy).fit.1 x h5;obtain⟨i,hi,rfl⟩:=List.getElem_of_mem h5;have h7:=((hW.ok y hy).tok hi).1;rw[Yaw,Yax hi]at h7;simp only[Ybw]at h7;omega
 have HKE:=Zh ((callsIn_wide (n:=5)).1 (Tryz.imaps_Keys (some mb) w));have hso:Calls Tryz.prog 69 #[.func (.func 127) #[] #[.pointer (some ⟨w.heap.size,0,none⟩)]] (w.alloc (.cells #[.map (some mb)] 153)) (Zg6 w (Zas L)):=by
  refine((callsIn_wide (n:=5)).1 (Tryz.islices_Sorted_keys mb (totT L) D _ w hM hmax hbytes)).mono ?_;rintro e2 w2 ⟨v,ss,rfl,hP,hrow,hnil,hb⟩;have hk1:ss.mergeSort leI=Zas L:=PMap.keys hM hD hup (λt=>plOf_some.symm) hP;have hrow':w2.ownsRow (w.alloc (.cells #[.map (some mb)] 153)).heap.size 3 1 v ss.length ((ss.mergeSort leI).map i64V):=hrow;have hsl:ss.length=(Zas L).length:=by rw[<- hk1];exact(List.mergeSort_perm ss leI).length_eq.symm
  rw[hk1,hsl]at hrow';obtain⟨A,c,rfl,hc⟩:=Za0 hrow';exact⟨A,c,rfl,IntsIn.own hrow' (by unfold maxLen;omega) hfit,hc,((Ybm _ w).alloc (Yar _) _).trans (hb.mono (by simp))⟩
 have HSO:=Zh hso;clear hso hmax hbytes hfit hup hM hD h4 h3 h2 h1;go_enter Tryz.func31,Tryz.ntmps31;go_wp2_with (first
  | (go_at_call 76;refine HKE.out.mono ?_;rintro e2 w2 ⟨rfl,rfl⟩)
  | (go_at_call 69;refine HSO.out.mono ?_;rintro e2 w2 ⟨Ak,ck,rfl,hki,hck,hb2⟩))
 go_ret;exact⟨Ak,ck,rfl,hki,hck,hb2⟩
theorem Zc6 (ad:Addr) (k:Nat):(ad.add k).block=ad.block:=by unfold Addr.add;split<;>rfl
theorem Zi1 (ad:Addr) (i j:Nat):(ad.add i).add j=ad.add (i+j):=by
 unfold Addr.add;by_cases hi:i=0
 ·subst hi
  simp
 ·by_cases hj:j=0
  ·subst hj
   simp[hi]
  ·rw[Yaf hi,Yaf hj,Yaf (by omega)]
   simp only[Addr.mk.injEq,and_true,true_and];omega
def PostsF (w:World) (F:Nat->Prop) (A:Option Addr) (n:Nat) (l:List Pst):Prop:=
 PostsSee w A n l/\(∀ ad,A=some ad->0<n->F ad.block)/\∀ ad (i:Nat) (x:Pst),A=some ad->l[i]?=some x->∀ B c,w.cell? (ad.add (i*2+1))=some (.slice B x.2.length c)->∀ bd,B=some bd->0<x.2.length->F bd.block
theorem PostsF.keep {w w':World} {F:Nat->Prop} {A:Option Addr} {n:Nat} {l:List Pst} (h:PostsF w F A n l) (hk:∀ i,F i->w'.heap[i]?=w.heap[i]?):PostsF w' F A n l:=by
 obtain⟨h1,h2,h3⟩:=h;have hc:∀ ad (i k:Nat) (x:Pst),A=some ad->l[i]?=some x->w'.cell? (ad.add k)=w.cell? (ad.add k):=λad i k x e hx=>by
  have hn:=h1.len;have hi:=(Ybb.1 hx).1;exact Yb4 (by rw[Zc6];exact hk _ (h2 ad e (by omega)))
 refine⟨⟨h1.len,h1.fit,h1.nil,λad e i x hx=>?_⟩,h2,λad i x e hx B c hB=>h3 ad i x e hx B c (by rw[<- hB];exact(hc ad i _ x e hx).symm)⟩;obtain⟨q1,q2,B,c,q3,q4,q5⟩:=h1.at_ ad e i x hx;refine⟨q1,(hc ad i _ x e hx).trans q2,B,c,(hc ad i _ x e hx).trans q3,q4,⟨q5.len,q5.fit,q5.vals,q5.nil,λbd eb j q hq=>?_⟩⟩;have hj:=(Ybb.1 hq).1;have hF:=hk _ (h3 ad i x e hx B c q3 bd eb (by omega));obtain⟨c1,c2⟩:=q5.cells bd eb j q hq;exact⟨(Yb4 (by rw[Zc6];exact hF)).trans c1,(Yb4 (by rw[Zc6];exact hF)).trans c2⟩
theorem PostsF.mono {w:World} {F G:Nat->Prop} {A:Option Addr} {n:Nat} {l:List Pst} (h:PostsF w F A n l) (hk:∀ i,F i->G i):PostsF w G A n l:=
 ⟨h.1,λad e h0=>hk _ (h.2.1 ad e h0),λad i x e hx B c hB bd eb h0=>hk _ (h.2.2 ad i x e hx B c hB bd eb h0)⟩
theorem PostsF.nil (w:World) (F:Nat->Prop):PostsF w F none 0 []:=⟨⟨rfl,Ybd _,(λ_=>rfl),(λad e=>(by cases e))⟩,(λad e=>(by cases e)),(λad i x e=>(by cases e))⟩
theorem PostsO.seeF {w:World} {base n c:Nat} {A:Option Addr} {L:List Pst} (h:PostsO w base (.slice A n c) L) (hn:L.length=n) (h63:n<=maxLen):PostsF w (λi=>base<=i/\i<w.heap.size) A n L:=by
 have hz:∀ ad,A=some ad->ad=⟨ad.block,0,none⟩:=λad e=>by
  obtain⟨R,h0,h1,h2⟩:=h;subst e;rcases h1.2 with⟨h3,_⟩|⟨g,cap,cur,h3,_⟩
  ·cases h3
  ·cases h3;rfl
 have ha:∀ g k,(⟨g,0,none⟩:Addr).add k=⟨g,k,none⟩:=λg k=>by
  unfold Addr.add;split
  ·rename_i h0;rw[h0]
  ·simp
 refine⟨h.see hn h63,λad e _=>?_,λad i x e hx B c2 hB bd eb h0=>?_⟩
 ·obtain⟨R,h0,h1,h2⟩:=h
  exact h1.lt ad.block (by rw[e];rfl)
 ·have hz:=hz ad e
  obtain⟨R,h0',h1,h2⟩:=h;have hlt:=(Ybb.1 hx).1;obtain⟨p,hp⟩:∃ p,R[i]?=some p:=⟨_,Yax (by omega)⟩
  obtain⟨q1,q2,B',cc,q3,q4,q5,q6⟩:=h2 i p x hp hx;have hc:=h1.cells (g:=ad.block) (by rw[e];rfl) (i*2+1) _ (Zok R i 1 p p.2 hp rfl);rw[ha]at hc;rw[hz,ha,hc,q3]at hB;simp only[Option.some.injEq,Value.slice.injEq]at hB;obtain⟨rfl,_⟩:=hB;have:=q6 bd eb h0
  exact⟨this.2.1,this.1⟩
def Zgx (A:Option Addr) (p c:Nat):Option Addr:=if c=p then A else A.map (·.add (p*2))
theorem PostsF.cut {w:World} {F:Nat->Prop} {A:Option Addr} {n c:Nat} {l:List Pst} (h:PostsF w F A n l) (hc:n<=c) {p:Nat} (hp:p<=n):PostsF w F (Zgx A p c) (n-p) (l.drop p):=by
 obtain⟨h1,h2,h3⟩:=h;have hl:=h1.len;have hf:=h1.fit;unfold Zgx;split
 ·have e:l.drop p=[]:=Ya0 (by simp;omega)
  rw[e,show n-p=0 by omega];exact⟨⟨rfl,Ybd _,λ_=>rfl,λad _ i x hx=>by simp at hx⟩,λad _ h0=>by omega,λad i x _ hx=>by simp at hx⟩
 ·cases A with
  | none=>
   have hz:=h1.nil rfl;have e:l.drop p=[]:=Ya0 (by simp;omega);rw[e,show n-p=0 by omega];exact⟨⟨rfl,Ybd _,λ_=>rfl,λad _ i x hx=>by simp at hx⟩,λad _ h0=>by omega,λad i x _ hx=>by simp at hx⟩
  | some a=>
   refine⟨⟨by simp;omega,by omega,λe=>by simp at e,λad e i x hx=>?_⟩,λad e h0=>?_,λad i x e hx B c2 hB=>?_⟩
   ·simp at e
    subst e;rw[Ybv]at hx;rw[Zi1,Zi1];have:=h1.at_ a rfl (p+i) x hx
    rw[show p*2+i*2=(p+i)*2 by omega,show p*2+(i*2+1)=(p+i)*2+1 by omega];exact this
   ·simp at e
    subst e;rw[Zc6];exact h2 a rfl (by omega)
   ·simp at e
    subst e;rw[Ybv]at hx;rw[Zi1,show p*2+(i*2+1)=(p+i)*2+1 by omega]at hB;exact h3 a (p+i) x rfl hx B c2 hB
def BytesF (w:World) (F:Nat->Prop) (A:Option Addr) (n:Nat) (l:Nm):Prop:=BytesIn w A n l/\∀ ad,A=some ad->0<n->F ad.block
theorem BytesF.keep {w w':World} {F:Nat->Prop} {A:Option Addr} {n:Nat} {l:Nm} (h:BytesF w F A n l) (hk:∀ i,F i->w'.heap[i]?=w.heap[i]?) (hs:w.heap.size<=w'.heap.size):BytesF w' F A n l:=
 ⟨⟨h.1.1,h.1.2.1.keep λad e h0=>hk _ (h.2 ad e h0),λad e h0=>Ya7 (h.1.2.2 ad e h0) hs⟩,h.2⟩
theorem BytesF.sub {w:World} {F:Nat->Prop} {A:Option Addr} {n c:Nat} {l:Nm} (h:BytesF w F A n l) (hc:n<=c) (p:Nat) (hp:p<=n):BytesF w F (Zak A p c) (n-p) (l.drop p):=by
 have hl:l.length=n:=by have:=h.1.2.1.len;simpa using this
 have h1:=h.1.sub hc p n hp (Yar _);rw[Yav (by omega)]at h1;refine⟨h1,λad e h0=>?_⟩;unfold Zak at e;split at e
 ·exact h.2 ad e (by omega)
 ·cases A with
  | none=>cases e
  | some a=>
   simp at e;subst e;rw[Zc6];exact h.2 a rfl (by omega)
structure CuIn (w:World) (F:Nat->Prop) (b:Nat) (A:Option Addr) (n c:Nat) (L:Option Addr) (m k:Nat) (po:List Pst) (lf:Nm):Prop where
 po:PostsF w (λi=>F i/\i≠b) A n po
 cap:n<=c
 lf:BytesF w (λi=>F i/\i≠b) L m lf
 room:m<=k/\m<=1099511627776
 own:F b
 low:∀ i,F i->i<w.heap.size
theorem CuIn.kept {w w':World} {F:Nat->Prop} {b:Nat} {A:Option Addr} {n c:Nat} {L:Option Addr} {m k:Nat} {po:List Pst} {lf:Nm} (h:CuIn w F b A n c L m k po lf) (hk:Kept (λi=>i=b) w w'):CuIn w' F b A n c L m k po lf where
 po:=h.po.keep λi hi=>hk.block i (h.low i hi.1) hi.2
 cap:=h.cap
 lf:=h.lf.keep (λi hi=>hk.block i (h.low i hi.1) hi.2) hk.size
 room:=h.room
 own:=h.own
 low:=λi hi=>Ya7 (h.low i hi) hk.size
theorem CuIn.all {w w':World} {F:Nat->Prop} {b:Nat} {A:Option Addr} {n c:Nat} {L:Option Addr} {m k:Nat} {po:List Pst} {lf:Nm} (h:CuIn w F b A n c L m k po lf) (hk:∀ i,F i->w'.heap[i]?=w.heap[i]?) (hs:w.heap.size<=w'.heap.size):CuIn w' F b A n c L m k po lf where
 po:=h.po.keep λi hi=>hk i hi.1
 cap:=h.cap
 lf:=h.lf.keep (λi hi=>hk i hi.1) hs
 room:=h.room
 own:=h.own
 low:=λi hi=>Ya7 (h.low i hi) hs
theorem CuIn.left {w:World} {F:Nat->Prop} {b:Nat} {A:Option Addr} {n c:Nat} {L:Option Addr} {m k:Nat} {po:List Pst} {lf:Nm} (h:CuIn w F b A n c L m k po lf) {p:Nat} (hp:p<=m):CuIn w F b A n c (Zak L p k) (m-p) (k-p) po (lf.drop p):=
 ⟨h.po,h.cap,h.lf.sub h.room.1 p hp,by have:=h.room;omega,h.own,h.low⟩
def CuRaw (w:World) (F:Nat->Prop) (b:Nat) (po:List Pst) (lf:Nm) (la P N r:Int):Prop:=
 ∃ A n c L m k,Blk w b 145 #[.slice A n c,.slice L m k,.int .i64 la,.int .i64 P,.int .i64 N,.int .i64 r]/\CuIn w F b A n c L m k po lf
theorem CuRaw.all {w w':World} {F:Nat->Prop} {b:Nat} {po:List Pst} {lf:Nm} {la P N r:Int} (h:CuRaw w F b po lf la P N r) (hk:∀ i,F i->w'.heap[i]?=w.heap[i]?) (hs:w.heap.size<=w'.heap.size):CuRaw w' F b po lf la P N r:=by
 obtain⟨A,n,c,L,m,k,h1,h2⟩:=h;exact⟨A,n,c,L,m,k,(hk b h2.own).trans h1,h2.all hk hs⟩
theorem CuRaw.lt {w:World} {F:Nat->Prop} {b:Nat} {po:List Pst} {lf:Nm} {la P N r:Int} (h:CuRaw w F b po lf la P N r):b<w.heap.size:=by
 obtain⟨A,n,c,L,m,k,h1,h2⟩:=h;exact h1.lt
theorem CuRaw.low {w:World} {F:Nat->Prop} {b:Nat} {po:List Pst} {lf:Nm} {la P N r:Int} (h:CuRaw w F b po lf la P N r):F b/\∀ i,F i->i<w.heap.size:=by
 obtain⟨A,n,c,L,m,k,h1,h2⟩:=h;exact⟨h2.own,h2.low⟩
theorem CuRaw.below {w w':World} {F:Nat->Prop} {b:Nat} {po:List Pst} {lf:Nm} {la P N r:Int} (h:CuRaw w F b po lf la P N r) (hb:Below w.heap.size w w'):CuRaw w' F b po lf la P N r:=
 h.all (λi hi=>hb.block i (h.low.2 i hi)) hb.size
theorem Ze2 {b:Nat} {a w:World} (h:Kept (λi=>i=b) a w) (i:Nat) (u:Value):Kept (λi=>i=b) a (w.setCell ⟨b,i,none⟩ u):=h.setCell (p:=⟨b,i,none⟩) (.inl rfl) u
theorem Zcs {b:Nat} {x y z:World} (h:Kept (λi=>i=b) x y) (k:Kept (λi=>i=b) y z):Kept (λi=>i=b) x z:=h.trans k (λ_ _ h=>h)
theorem Zm5 {w:World} {F:Nat->Prop} {b:Nat} {po:List Pst} {lf rest:Nm} {la P N r:Int} (h:CuRaw w F b po lf la P N r) {v:Nat} (hv:v<2 ^ 63) (hl:lf=putL v++rest):
  Calls Tryz.prog 122 #[at0 b] w λe w'=>e=.returned (.int .i64 v)/\CuRaw w' F b po rest la P N r/\Kept (λi=>i=b) w w':=by
 obtain⟨A,n,c,L,m,k,h1,h2⟩:=h;have hln:lf.length=m:=by have:=h2.lf.1.2.1.len;simpa using this
 have hg:getL lf=(v,(putL v).length,0):=by rw[hl];exact Zcz (by omega) _
 have HG:=Zh (Zgy w L m k lf h2.lf.1);unfold gotV at HG;rw[hg]at HG;simp only at HG;obtain⟨j,hj⟩:=Ze ((putL v).length);rw[<- hj]at HG;have hjm:j<=m:=by rw[hj,<- hln,hl,Yaq];omega
 have hdr:lf.drop j=rest:=by rw[hj,hl,Ya3]
 have hk:=h2.room.1;have HB:=Zh h1;have H2:=Zh (h2.left hjm);rw[hdr]at H2;have c1:=h1.cell 1;have z1:=h1.frozen 1;simp at c1;have hsl:=λw=>Zbf w L m k j hjm;have hw:IntKind.i64.wrap (v:Int)=(v:Int):=Ybo _ (by omega);clear h1 h2 hg hj hl hln hdr;unfold at0;go_enter Tryz.func122,Tryz.ntmps122;go_wp2_with fail;refine HG.out.mono ?_;rintro e w1 ⟨rfl,rfl⟩;go_wp2;go_ret;have hk:Kept (λi=>i=b) w1 (w1.setCell ⟨b,1,none⟩ (.slice (Zak L j k) (m-j) (k-j))):=Ze2 (Kept.refl _ w1) 1 _;exact⟨rfl,⟨A,n,c,_,_,_,by simpa using HB.out.set_ 1 (.slice (Zak L j k) (m-j) (k-j)),H2.out.kept hk⟩,hk⟩
theorem Zx0:(Tryz.prog.info? 270).map (·.size)=some 2:=by kernel_rfl
theorem Zwq {w:World} {F:Nat->Prop} {b:Nat} {po:List Pst} {lf rest:Nm} {la P N r:Int} (h:CuRaw w F b po lf la P N r) {u v:Nat} (hla:-1<=la) (hla2:la<=4294967296) (hu:u<2 ^ 40) (hv:v<2 ^ 40) (hl:lf=putL u++(putL v++rest)) {t:Int} (ht:la+1+(u:Int)=t):
  Calls Tryz.prog 193 #[at0 b] w λe w'=>e=.returned (.agg #[.int .i64 t,.int .i64 v])/\CuRaw w' F b po rest la P N r/\Kept (λi=>i=b) w w':=by
 have hbl:=h.lt;have hFl:=h.low.2;obtain⟨W1,hW1⟩:=Ze (w.alloc (.cells #[.int .i64 0,.int .i64 0] 270));have hb1:Below w.heap.size w W1:=by rw[hW1];exact(Ybm _ w).alloc (Yar _) _
 have hT1:Blk W1 w.heap.size 270 #[.int .i64 0,.int .i64 0]:=by rw[hW1];exact Blk.new _ _ _
 have h1:=h.below hb1;have hs1:W1.heap.size=w.heap.size+1:=by rw[hW1];simp
 have HB1:=Zh hb1;have HT1:=Zh hT1;have HNUM:=Zh (Zm5 (h1.below ((Ybm _ W1).drew)) (v:=u) (rest:=putL v++rest) (by omega) hl);have c2:W1.cell? ⟨b,2,none⟩=some (.int .i64 la):=by
  obtain⟨A,n,c,L,m,k,q1,q2⟩:=h1;have:=q1.cell 2
  simpa using this
 have HW1:=Zh hW1;have hw1:IntKind.i64.wrap (la+1)=la+1:=Ybo _ (by omega);have hw3:IntKind.i64.wrap (la+1+(u:Int))=la+1+(u:Int):=Ybo _ (by omega);have HT:=Zh ht;clear h h1 hW1 hb1 hT1 hl ht;unfold at0;go_enter Tryz.func193,Tryz.ntmps193;go_wp2_with fail;rw[<- HW1.out];refine Yb8 (S:=λw'=>w'.cell? ⟨b,2,none⟩=some (.int .i64 la)) (by kernel_rfl) ?_ (λhHeld=>?_)
 ·exact c2
 refine tk 0 ?_;try simp only[Act.put,lz3,lz4,lz5]
 refine tk 1 ?_;try simp only[Act.put,lz3,lz4,lz5]
 refine tk 2 ?_;try simp only[Act.put,lz3,lz4,lz5]
 refine tk 3 ?_;try simp only[Act.put,lz3,lz4,lz5]
 refine tk 4 ?_;try simp only[Act.put,lz3,lz4,lz5]
 refine tk 5 ?_;try simp only[Act.put,lz3,lz4,lz5]
 refine rd1 6 ?_;intro K hK;go_simp;refine HNUM.out.mono ?_;rintro e w2 ⟨rfl,hr2,hk2⟩;have hS2:w2.cell? ⟨b,2,none⟩=some (.int .i64 la):=by
  obtain⟨A,n,c,L,m,k,q1,q2⟩:=hr2;have:=q1.cell 2
  simpa using this
 have HR2:=Zh hr2;have HK2:Hid (Kept (λi=>i=b) W1 w2):=Zh ⟨hk2.os,hk2.tape,hk2.output,hk2.size,hk2.block⟩;have hs2:W1.heap.size<=w2.heap.size:=hk2.size;clear hr2 hk2;go_wp2_with fail;refine hK.out _ _ hS2 (λ_=>?_);clear hK K;refine tk 7 ?_;try simp only[Act.put,lz3,lz4,lz5]
 refine tk 8 ?_;try simp only[Act.put,lz3,lz4,lz5]
 refine Yb9 (by kernel_rfl) ?_ _;have HT2:=Zh (HT1.out.kept HK2.out (by omega));rw[HT.out];clear hw1 hw3;have HNUM2:=Zh (Zm5 HR2.out (v:=v) (rest:=rest) (by omega) rfl);go_wp2_with fail;refine HNUM2.out.mono ?_;rintro e w3 ⟨rfl,hr3,hk3⟩;have HR3:=Zh hr3;have HK3:=Zh (Zcs (Zcs (Kept.below HB1.out) HK2.out) hk3);have hs3:=hk3.size;have HT3:=Zh (HT2.out.kept hk3 (by omega));clear hr3 hk3;have z0:=HT3.out.frozen 0;have z1:=HT3.out.frozen 1;have y0:=HT3.out.cell 0;have y1:=HT3.out.cell 1;simp at y0 y1;have HT4:=Zh ((HT3.out.set_ 0 (.int .i64 t)).set_ 1 (.int .i64 v));obtain⟨W4,hW4⟩:=Ze ((w3.setCell ⟨w.heap.size,0,none⟩ (.int .i64 t)).setCell ⟨w.heap.size,1,none⟩ (.int .i64 v));rw[<- hW4]at HT4;have hk4:Kept (λi=>i=w.heap.size) w3 W4:=by rw[hW4];exact Ze2 (Ze2 (Kept.refl _ w3) 0 _) 1 _
 have HK4:=Zh hk4;have HR4:Hid (CuRaw W4 F b po rest la P N r):=Zh (HR3.out.all (λi hi=>?hR) (by rw[hW4,Zai,Zai];exact Yar _));case hR=>
  have:i<w.heap.size:=hFl i hi;rw[hW4,Zad _ _ _ (by simp only;omega),Zad _ _ _ (by simp only;omega)]
 have HW4:=Zh hW4;clear hk4 hW4;go_wp2;rw[<- HW4.out];refine bodyPost_ret (results_cell_row rfl _ _ w.heap.size 270 #[.int .i64 t,.int .i64 v] (0,0) _ rfl ?_ Tryz.underlying270 rfl Zx0) rfl ?_
 ·have:=HT4.out
  unfold Blk at this;simpa using this
 ·exact⟨rfl,HR4.out,HK3.out.trans HK4.out (λi hi e=>by omega)⟩
theorem Zn6 {w:World} {F:Nat->Prop} {b:Nat} {po:List Pst} {lf:Nm} {la P N r:Int} (h:CuRaw w F b po lf la P N r) {t:Int} {v:Nat} {mm:Int} (hv:v<=lf.length) (h1:0<=P) (h2:P<=10000) (h3:0<=mm) (h4:mm<=16):
  Calls Tryz.prog 194 #[at0 b,.agg #[.int .i64 t,.int .i64 v],.int .i64 mm] w λe w'=>e=.returned (.tuple #[])/\CuRaw w' F b po (lf.drop v) t (P+mm) N r/\Kept (λi=>i=b) w w':=by
 have hbl:=h.lt;have hFl:=h.low.2;obtain⟨W1,hW1⟩:=Ze (w.alloc (.cells #[.int .i64 t,.int .i64 v] 270));have hb1:Below w.heap.size w W1:=by rw[hW1];exact(Ybm _ w).alloc (Yar _) _
 have hT1:Blk W1 w.heap.size 270 #[.int .i64 t,.int .i64 v]:=by rw[hW1];exact Blk.new _ _ _
 obtain⟨A,n,c,L,m,k,q1,q2⟩:=h.below hb1;have hln:lf.length=m:=by have:=q2.lf.1.2.1.len;simpa using this
 rw[hln]at hv;have hk:=q2.room.1;have HB1:=Zh hb1;have HQ2:=Zh (q2.left hv);have HQ1:=Zh q1;have c1:=q1.cell 1;have c2:=q1.cell 2;have c3:=q1.cell 3;have z1:=q1.frozen 1;have z2:=q1.frozen 2;have z3:=q1.frozen 3;have t0:=hT1.cell 0;have t1:=hT1.cell 1;simp only[lz0,lz1,lz2]at c1 c2 c3 t0 t1;have hsl:=λw=>Zbf w L m k v hv;have hw:IntKind.i64.wrap (P+mm)=P+mm:=Ybo _ (by omega);have HW1:=Zh hW1;clear h q1 q2 hb1 hT1 hW1 hFl;unfold at0;go_enter Tryz.func194,Tryz.ntmps194;go_wp2_with fail;rw[<- HW1.out];go_region;obtain⟨W2,hW2⟩:=Ze ((W1.setCell ⟨b,1,none⟩ (.slice (Zak L v k) (m-v) (k-v))).drew);have HB2:Hid (Blk W2 b 145 #[.slice A n c,.slice (Zak L v k) (m-v) (k-v),.int .i64 la,.int .i64 P,.int .i64 N,.int .i64 r]):=Zh (by rw[hW2];simpa using(HQ1.out.set_ 1 (.slice (Zak L v k) (m-v) (k-v))).drew);have HK2:Hid (Kept (λi=>i=b) W1 W2):=Zh (by rw[hW2];exact(Ze2 (Kept.refl _ W1) 1 _).drew);have HI2:=Zh (HQ2.out.kept HK2.out);have t0':W2.cell? ⟨w.heap.size,0,none⟩=some (.int .i64 t):=by rw[hW2];exact(Yb4 (Zad W1 _ _ (by simp only;omega))).trans t0
 have c2':=HB2.out.cell 2;have c3':=HB2.out.cell 3;have z2':=HB2.out.frozen 2;have z3':=HB2.out.frozen 3;simp only[lz0,lz1,lz2]at c2' c3';rw[<- hW2];clear hW2 t0 t1 c1 c2 c3 z1 z2 z3;go_wp2;go_end0;obtain⟨W3,hW3⟩:=Ze ((W2.setCell ⟨b,2,none⟩ (.int .i64 t)).setCell ⟨b,3,none⟩ (.int .i64 (P+mm)));rw[<- hW3];have hk3:Kept (λi=>i=b) W2 W3:=by rw[hW3];exact Ze2 (Ze2 (Kept.refl _ W2) 2 _) 3 _
 have hb3:=(HB2.out.set_ 2 (.int .i64 t)).set_ 3 (.int .i64 (P+mm));rw[<- hW3]at hb3;exact⟨rfl,⟨A,n,c,_,_,_,by simpa using hb3,HI2.out.kept hk3⟩,Zcs (Zcs (Kept.below HB1.out) HK2.out) hk3⟩
theorem Zqr {w:World} {F:Nat->Prop} {b:Nat} {po:List Pst} {lf:Nm} {la N r:Int} {P:Nat} (h:CuRaw w F b po lf la P N r):
  Calls Tryz.prog 192 #[at0 b] w λe w'=>∃ A n c l,e=.returned (.slice A n c)/\IntsIn w' A n l/\Below w.heap.size w w'/\l=(if P % 16=0 then [16,4] else [4])/\∀ ad,A=some ad->w.heap.size<=ad.block:=by
 obtain⟨A,n,c,L,m,k,q1,q2⟩:=h;have c3:=q1.cell 3;simp only[lz0,lz1,lz2]at c3;clear q1 q2;have hb:=(Ybm w.heap.size w).alloc (Yar _);have hr:(P:Int).tmod 16=((P % 16:Nat):Int):=(Int.ofNat_tmod P 16).symm;unfold at0;by_cases h16:P % 16=0
 ·rw[Yag h16]
  have hr0:(P:Int).tmod 16=0:=by rw[hr,h16];rfl
  go_enter Tryz.func192,Tryz.ntmps192;go_wp2;go_ret;refine⟨_,_,_,[16,4],rfl,?_,hb _,rfl,λad e=>by cases e;exact Yar _⟩;refine⟨by unfold maxLen;omega,⟨rfl,λad e j x hx=>?_,λe=>by cases e⟩,by simp,λad e _=>by cases e;simp⟩;cases e
  match j with
  | 0=>simp[i64V]at hx;subst hx;simp[Addr.add]
  | 1=>simp[i64V]at hx;subst hx;simp[Addr.add]
  | j+2=>simp at hx
 ·rw[Yaf h16]
  have hr1:(((P % 16:Nat):Int)==0)=false:=beq_eq_false_iff_ne.2 (by omega);go_enter Tryz.func192,Tryz.ntmps192;go_wp2;go_ret;exact⟨_,_,_,[4],rfl,⟨by unfold maxLen;omega,Zbe w 3 4,by simp,λad e _=>by cases e;simp⟩,hb _,rfl,λad e=>by cases e;exact Yar _⟩
theorem Zvx (w:World) (AP AA:Option Addr) (n cP cA:Nat) (P A:List Int) (hP:IntsIn w AP n P) (hA:IntsIn w AA n A) (hn4:n<=4096):
  Calls Tryz.prog 218 #[.slice AP n cP,.slice AA n cA] w λe w'=>∃ v,e=.returned v/\w'.ownsRow w.heap.size 64 2 v n ((P.zip A).flatMap Zat)/\Below w.heap.size w w':=by
 obtain⟨i1,hi1,hy0,hy1,hy2⟩:=info_parts Zgs;have HPI:=Zh hP;have HAI:=Zh hA;have hzl:(P.zip A).length=n:=by rw[List.length_zip,hP.len,hA.len];omega
 have HZL:=Zh hzl;clear hP hA hzl;go_enter Tryz.func218,Tryz.ntmps218;go_wp2_with fail;go_loopw [5,9] (λv i wr=>∃ k:Nat,k<=n/\i=.int .i64 k/\wr.ownsRow w.heap.size 64 2 v k (((P.zip A).take k).flatMap Zat)/\Below w.heap.size w wr) (λ_ i _=>n-(intOf i).toNat);case atStart=>exact⟨0,by omega,rfl,⟨rfl,.inl ⟨rfl,rfl⟩⟩,Ybm _ _⟩
 case round=>
  obtain⟨k,hk,rfl,hO,hB⟩:=hrel;have HO:=Zh hO;have HB:=Zh hB;have hbz:=hB.size;clear hO hB;obtain⟨Av,cv,hv⟩:=Zac HO.out;subst hv;rcases Yab k n with hlt2|hge
  ·have hlt':(k:Int)<(n:Int):=by omega
   have p0:(0:Int)<=(k:Int):=by omega
   have hw5:IntKind.i64.wrap ((k:Int)+1)=(k:Int)+1:=Ybo _ (by omega);obtain⟨pP,x1,rfl,hx1,a0,-,-⟩:=(HPI.out.below HB.out).at k hlt2;obtain⟨pA,x2,rfl,hx2,b0,-,-⟩:=(HAI.out.below HB.out).at k hlt2;obtain⟨_,y1,e1,hy,g0,-,-⟩:=HPI.out.at k hlt2;obtain⟨_,y2,e2,hy',g1,-,-⟩:=HAI.out.at k hlt2;obtain rfl:=Ya9 e1;obtain rfl:=Ya9 e2;obtain rfl:=Ya9 (hx1.symm.trans hy);obtain rfl:=Ya9 (hx2.symm.trans hy');have HPI4:=Zh g0;have HAI4:=Zh g1;clear e1 e2 hy hy' g0 g1;have HTK:Hid ((P.zip A).take (k+1)=(P.zip A).take k++[(x1,x2)]):=Zh (by
    rw[Ya5,(List.getElem?_zip_eq_some (z:=(x1,x2))).2 ⟨hx1,hx2⟩];rfl)
   clear hx1 hx2;go_wp2_with fail;refine Yb8 (S:=λw'=>w'.cell? (pP.add k)=some (.int .i64 x1)/\w'.cell? (pA.add k)=some (.int .i64 x2)) (by kernel_rfl) ?_ (λhHeld=>?_)
   ·exact⟨a0,b0⟩
   refine tk 0 ?_ (hy:=by((intro w hSw;obtain⟨hS1,hS2⟩:=hSw;go_simp);first|done|with_reducible rfl));(try simp only[Act.put,lz3,lz4,lz5]);refine tk 1 ?_ (hy:=by((intro w hSw;obtain⟨hS1,hS2⟩:=hSw;go_simp);first|done|with_reducible rfl));(try simp only[Act.put,lz3,lz4,lz5]);refine tk 2 ?_ (hy:=by((intro w hSw;obtain⟨hS1,hS2⟩:=hSw;go_simp);first|done|with_reducible rfl));(try simp only[Act.put,lz3,lz4,lz5]);refine tk 3 ?_ (hy:=by((intro w hSw;obtain⟨hS1,hS2⟩:=hSw;go_simp);first|done|with_reducible rfl));(try simp only[Act.put,lz3,lz4,lz5]);refine tk 4 ?_ (hy:=by((intro w hSw;obtain⟨hS1,hS2⟩:=hSw;go_simp);first|done|with_reducible rfl));(try simp only[Act.put,lz3,lz4,lz5]);refine tk 5 ?_ (hy:=by((intro w hSw;obtain⟨hS1,hS2⟩:=hSw;go_simp);first|done|with_reducible rfl));(try simp only[Act.put,lz3,lz4,lz5]);refine tk 6 ?_ (hy:=by((intro w hSw;obtain⟨hS1,hS2⟩:=hSw;go_simp);first|done|with_reducible rfl));(try simp only[Act.put,lz3,lz4,lz5]);refine tk 7 ?_ (hy:=by((intro w hSw;obtain⟨hS1,hS2⟩:=hSw;go_simp);first|done|with_reducible rfl));(try simp only[Act.put,lz3,lz4,lz5]);refine tk 8 ?_ (hy:=by((intro w hSw;obtain⟨hS1,hS2⟩:=hSw;go_simp);first|done|with_reducible rfl));(try simp only[Act.put,lz3,lz4,lz5]);refine tk 9 ?_ (hy:=by((intro w hSw;obtain⟨hS1,hS2⟩:=hSw;go_simp);first|done|with_reducible rfl));(try simp only[Act.put,lz3,lz4,lz5]);obtain⟨wd,hwd⟩:=Ze wr.drew;have hbd:Below wr.heap.size wr wd:=by rw[hwd];exact(Ybm _ wr).drew
   have HOD:=Zh (Zab HO.out (w':=wd) λg hg=>hbd.block g (HO.out.lt g hg).2);have hzd:wr.heap.size<=wd.heap.size:=by rw[hwd];exact Yar _
   rw[<- hwd];have hba:Below wd.heap.size wd (wd.alloc (.cells #[.int .i64 x1,.int .i64 x2] 64)):=(Ybm _ wd).alloc (Yar _) _;have hSd:=And.intro (Zag hbd a0) (Zag hbd b0);have hSa:=And.intro (Zag hba hSd.1) (Zag hba hSd.2);have HBA:=Zh (Zaa (Zaa HB.out hbd hbz) hba (by omega));clear hwd;refine rd1 10 ?_;intro K hK;go_simp;refine hK.out _ _ hSa (λ_=>?_);clear hK K;(try simp only[Act.put,lz3,lz4,lz5]);refine rd1 11 ?_;intro K hK;refine Zar _ rfl (.tmp 12) (.tmp 22) 60 rfl w.heap.size 64 i1 _ 2 16 Tryz.underlying60 hi1 hy0 hy1 hy2 rfl (by decide) _ k _ rfl (Yb6 HOD.out _) ⟨wd.heap.size,0,none⟩ 1 1 (Zat (x1,x2)) rfl rfl (Zv7 wd 64 (x1,x2)) (Zgg _) (by unfold maxLen;omega) (by omega) (by simp;omega) ?_;intro v5 w5 hown hgrow hloc;have HO5:=Zh hown;have HB5:=Zh (HBA.out.grown hgrow (by simp;omega) (λg hg=>(HO.out.lt g hg).1));have hS5:w5.cell? (pP.add k)=some (.int .i64 x1)/\w5.cell? (pA.add k)=some (.int .i64 x2):=⟨Zag HB5.out HPI4.out,Zag HB5.out HAI4.out⟩
   clear hown hgrow hloc;refine hK.out _ _ hS5 (λ_=>?_);clear hK K;(try simp only[Act.put,lz3,lz4,lz5]);refine tk 12 ?_ (hy:=by((intro w hSw;obtain⟨hS1,hS2⟩:=hSw;go_simp);first|done|with_reducible rfl));(try simp only[Act.put,lz3,lz4,lz5]);refine Yb9 (by kernel_rfl) ?_ _;go_wp2;go_roundw;case rel=>
    refine⟨k+1,by omega,by go_num,?_,HB5.out⟩;rw[HTK.out,Ybg];simpa using HO5.out
   case measure=>simp[intOf];omega
  ·obtain rfl:k=n:=by omega
   have hlz:¬ ((k:Int)<(k:Int)):=by omega
   have hall:(P.zip A).take k=P.zip A:=Yav (by rw[HZL.out];exact Yar _);rw[hall]at HO;have HO':=Zh HO.out;clear hall HO;go_wp2;go_ret;exact⟨_,rfl,HO'.out,HB.out⟩
def LeftAt (w:World) (g:Nat) (x:Nm):Prop:=∃ A n c,Blk w g 24 #[.slice A n c]/\BytesIn w A n x/\n<=c/\n<=1099511627776/\∀ ad,A=some ad->0<n->ad.block<g
theorem LeftAt.kept {w w':World} {g:Nat} {x:Nm} (h:LeftAt w g x) (hk:∀ i,i<=g->w'.heap[i]?=w.heap[i]?) (hs:w.heap.size<=w'.heap.size):LeftAt w' g x:=by
 obtain⟨A,n,c,h1,h2,h3,h4,h5⟩:=h;exact⟨A,n,c,(hk g (Yar _)).trans h1,⟨h2.1,h2.2.1.keep λad e h0=>hk _ (Nat.le_of_lt (h5 ad e h0)),λad e h0=>Ya7 (h2.2.2 ad e h0) hs⟩,h3,h4,h5⟩
theorem LeftAt.lt {w:World} {g:Nat} {x:Nm} (h:LeftAt w g x):g<w.heap.size:=by
 obtain⟨A,n,c,h1,_⟩:=h;exact h1.lt
theorem LeftAt.below {w w':World} {g:Nat} {x:Nm} (h:LeftAt w g x) (hb:Below w.heap.size w w'):LeftAt w' g x:=h.kept (λi hi=>hb.block i (by have:=h.lt;omega)) hb.size
theorem LeftAt.cut {w w2 w':World} {g:Nat} {x:Nm} {A:Option Addr} {n c:Nat} (h2:BytesIn w A n x) (h3:n<=c) (h4:n<=1099511627776) (h5:∀ ad,A=some ad->0<n->ad.block<g) (hb:Below w.heap.size w w2) {j:Nat} (hj:j<=n)
  (hw:w'=w2.setCell ⟨g,0,none⟩ (.slice (Zak A j c) (n-j) (c-j))) (hB:Blk w2 g 24 #[.slice A n c]):LeftAt w' g (x.drop j):=by
 have hs:=(h2.below hb).sub h3 j n hj (Yar _);have hl:x.length=n:=by have:=h2.2.1.len;simpa using this
 rw[Yav (by omega)]at hs;have hne:∀ ad,Zak A j c=some ad->0<n-j->ad.block<g:=λad e h0=>by
  unfold Zak at e;split at e
  ·exact h5 ad e (by omega)
  ·cases A with
   | none=>cases e
   | some a=>
    simp at e;subst e;rw[Zc6];exact h5 a rfl (by omega)
 subst hw;exact⟨_,_,_,by simpa using hB.set_ 0 (.slice (Zak A j c) (n-j) (c-j)),⟨hs.1,hs.2.1.keep λad e h0=>Yb5 _ _ _ _ (Nat.ne_of_lt (hne ad e h0)),λad e h0=>by rw[Zai];exact hs.2.2 ad e h0⟩,by omega,by omega,hne⟩
theorem Zo6 {w:World} {g:Nat} {x rest:Nm} (h:LeftAt w g x) {l:List Int} (hl:l.length<=4096) (hr:Za4 (-1) l=true) (hf:∀ y∈l,y<=9223372036854775807) (hx:x=putR l++rest):
  Calls Tryz.prog 216 #[.pointer (some ⟨g,0,none⟩)] w λe w'=>∃ v,e=.returned v/\w'.ownsRow w.heap.size 2 1 v l.length (l.map i64V)/\LeftAt w' g rest/\Kept (λi=>i=g) w w':=by
 obtain⟨A,n,c,h1,h2,h3,h4,h5⟩:=h;have hln:x.length=n:=by have:=h2.2.1.len;simpa using this
 have hgl:=h1.lt;have HG:=Zh (Zhb w A n c x h2 h3 h4 4096 (by omega) (by omega));have hg:getR x 4096=(l,(putR l).length,0):=by rw[hx];exact Zjx l (by omega) hr hf _ _ (by omega)
 unfold Zi7 at HG;rw[hg]at HG;simp only at HG;obtain⟨j,hj⟩:=Ze ((putR l).length);rw[<- hj]at HG;have hjn:j<=n:=by rw[hj,<- hln,hx,Yaq];omega
 have hdr:x.drop j=rest:=by rw[hj,hx,Ya3]
 have HB:=Zh h1;have H2:=Zh h2;have H5:=Zh h5;have HDR:=Zh hdr;have c0:=h1.cell 0;simp at c0;have hsl:=λw=>Zbf w A n c j hjn;clear h1 h2 h5 hg hj hx hln hdr;go_enter Tryz.func216,Tryz.ntmps216;go_wp2_with fail;refine HG.out.mono ?_;rintro e w1 ⟨v1,rfl,hb1,ho1⟩;have HB1:=Zh hb1;have HO1:=Zh ho1;have HBK1:=Zh (HB.out.below hb1 hgl);have t0:=HBK1.out.cell 0;have z0:=HBK1.out.frozen 0;simp at t0;clear hb1 ho1 c0;go_wp2;go_ret;refine⟨v1,rfl,Zab HO1.out λi hi=>Yb5 _ _ _ _ (by have:=(HO1.out.lt i hi).1;simp only;omega),?_,Ze2 (Kept.below HB1.out) 0 _⟩;have:=LeftAt.cut (g:=g) H2.out h3 h4 H5.out HB1.out hjn rfl HBK1.out
 rw[HDR.out]at this;exact this
structure RdB (w wr:World) (x:Nm) (vv:Value):Prop where
 left:LeftAt wr w.heap.size x
 res:Blk wr (w.heap.size+1) 143 #[.slice none 0 0]
 blk:Blk wr (w.heap.size+2) 143 #[vv]
 below:Below w.heap.size w wr
theorem RdB.more {w wr w':World} {x:Nm} {vv:Value} (h:RdB w wr x vv) (hb:Below wr.heap.size wr w'):RdB w w' x vv:=
 ⟨h.left.below hb,h.res.below hb h.res.lt,h.blk.below hb h.blk.lt,Zaa h.below hb h.below.size⟩
theorem RdB.turn {w wr w':World} {x x':Nm} {vv:Value} (h:RdB w wr x vv) (hk:Kept (λi=>i=w.heap.size) wr w') (hl:LeftAt w' w.heap.size x'):RdB w w' x' vv:=
 ⟨hl,h.res.kept hk (by omega),h.blk.kept hk (by omega),h.below.trans (hk.toBelow h.below.size (λi e=>by omega))⟩
theorem RdB.grown {w wr w':World} {x:Nm} {vv:Value} {row:Option Nat} (h:RdB w wr x vv) (hg:wr.grownBy w' row) (hr:∀ g,row=some g->w.heap.size+3<=g):RdB w w' x vv:=
 ⟨h.left.kept (λi hi=>hg.block i (by have:=h.left.lt;omega) (λe=>by have:=hr i e.symm;omega)) hg.size,h.res.grown hg (λe=>by have:=hr _ e.symm;omega),h.blk.grown hg (λe=>by have:=hr _ e.symm;omega),h.below.grown hg h.below.size (λg e=>by have:=hr g e;omega)⟩
theorem RdB.put {w wr:World} {x:Nm} {vv:Value} (h:RdB w wr x vv) (u:Value):RdB w (wr.setCell ⟨w.heap.size+2,0,none⟩ u) x u:=
 ⟨h.left.kept (λi hi=>Zad _ _ _ (by simp only;omega)) (by rw[Zai];exact Yar _),h.res.far (by simp only;omega) u,by simpa using h.blk.set_ 0 u,h.below.setCell (p:=⟨w.heap.size+2,0,none⟩) (by simp only;omega) u⟩
theorem Zwy:(Tryz.prog.info? 143).map (·.size)=some 1:=by kernel_rfl
theorem Qak (l:List Pst) (i:Nat):0<(Zbh l i).length:=by
 unfold Zbh;rw[Yaq];have:=Zeo ((pAt l i).1-Zaq l i-1).toNat
 omega
theorem Zyw (w:World) (A:Option Addr) (n c:Nat) {l:List Pst} (hV:ValidP l) {Q E:Nat} (hQE:Q<=E) (hE:E<=l.length) (hb:BytesIn w A n (cat (Zbh l) Q (E-Q))) (hc:n<=c) (hn:n<=1099511627776) {d0:Int} (hd0:d0=Zaq l Q):
  Calls Tryz.prog 195 #[.slice A n c,.int .i64 d0] w λe w'=>∃ v,e=.returned (.agg #[v])/\PostsO w' w.heap.size v (sl l Q E)/\Below w.heap.size w w':=by
 obtain⟨i1,hi1,hy0,hy1,hy2⟩:=info_parts Zeq;obtain⟨W3,hW3⟩:=Ze (((w.alloc (.cells #[.slice A n c] 24)).alloc (.cells #[.slice none 0 0] 143)).alloc (.cells #[.slice none 0 0] 143));have hb3:Below w.heap.size w W3:=by rw[hW3];exact(((Ybm _ w).alloc (Yar _) _).alloc (by simp) _).alloc (by simp;omega) _
 have hR3:RdB w W3 (cat (Zbh l) Q (E-Q)) (.slice none 0 0):=by
  refine⟨⟨A,n,c,?_,hb.below hb3,hc,hn,λad e h0=>hb.2.2 ad e h0⟩,?_,?_,hb3⟩
  ·rw[hW3];exact((Blk.new w _ _).alloc _).alloc _
  ·rw[hW3];have:=(Blk.new (w.alloc (.cells #[.slice A n c] 24)) 143 #[.slice none 0 0]).alloc (.cells #[.slice none 0 0] 143);simpa using this
  ·rw[hW3];have:=Blk.new ((w.alloc (.cells #[.slice A n c] 24)).alloc (.cells #[.slice none 0 0] 143)) 143 #[.slice none 0 0];simpa using this
 have HR3:=Zh hR3;have HW3:=Zh hW3;have HV:=Zh hV;have HD0:=Zh hd0;clear hb hW3 hb3 hR3 hV hd0 hc hn;go_enter Tryz.func195,Tryz.ntmps195;go_wp2_with fail;rw[<- HW3.out];go_loopw [1] (λs1 wr=>∃ q vv,Q<=q/\q<=E/\s1=.int .i64 (Zaq l q)/\RdB w wr (cat (Zbh l) q (E-q)) vv/\PostsO wr (w.heap.size+3) vv (sl l Q q)) (λs1 _=>(4294967297-Go.RowKit.intOf s1).toNat);case atStart=>exact⟨Q,.slice none 0 0,Yar _,hQE,by rw[HD0.out],HR3.out,by rw[Znd];exact PostsO.nil _ _⟩
 case round=>
  obtain⟨q,vv,hq1,hq2,rfl,hR,hP⟩:=hrel;have HR:=Zh hR;have HP:=Zh hP;obtain⟨A1,n1,c1,b1,b2,b3,b4,b5⟩:=hR.left;have hxl:(cat (Zbh l) q (E-q)).length=n1:=by have:=b2.2.1.len;simpa using this
  have t0:=b1.cell 0;have z0:=b1.frozen 0;simp only[lz0,lz1]at t0;have HB1:=Zh b1;have HB2:=Zh b2;have HB5:=Zh b5;clear b1 b2 b5 hR hP;rcases Yab q E with hlt|hge
  ·have hx:cat (Zbh l) q (E-q)=Zbh l q++cat (Zbh l) (q+1) (E-(q+1)):=by
    rw[show E-q=(E-(q+1))+1 by omega,Zen]
   have hp:=HV.out.last (i:=q) (by omega);have hu:=HV.out.up q (by omega);have hd:=HV.out.docs _ (Zay (show q<l.length by omega));have hsp:=HV.out.spots _ (Zay (show q<l.length by omega));have hpos:=HV.out.pos _ (Zay (show q<l.length by omega));have hats:=HV.out.at_ _ (Zay (show q<l.length by omega));have hfit:=Zhv (HV.out.fit _ (Zay (show q<l.length by omega)));have hnl:=Zcx (pAt l q).2;have hzip:=Zk4 (pAt l q).2;have hsl1:=Qck l (x:=Q) (y:=q) (z:=q+1) hq1 (by omega);rw[Qcm (show q<l.length by omega)]at hsl1;have hnx:=Zfb l q;have hslen:(sl l Q q).length=q-Q:=Zog (by omega);have hUP:=Qak l q;obtain⟨x,hxx⟩:=Ze (pAt l q);obtain⟨D,hD⟩:=Ze (Zaq l q);obtain⟨gap,hgap⟩:=Ze (((pAt l q).1-Zaq l q-1).toNat);have hun:Zbh l q=putL gap++(putR (poss x.2)++putR (atss x.2)):=by unfold Zbh;rw[<- hgap,<- hxx]
   rw[<- hxx]at hu hd hsp hpos hats hfit hnl hzip hsl1 hnx hgap;rw[<- hD]at hp hu hgap ⊢;obtain⟨R,hRR⟩:=Ze (cat (Zbh l) (q+1) (E-(q+1)));rw[<- hRR,hun]at hx;have hn1:0<n1:=by rw[<- hxl,hx];rw[hun]at hUP;simp only[Yaq]at hUP ⊢;omega
   have hg64:gap<2 ^ 40:=by omega
   have hDg:D+(1+(gap:Int))=x.1:=by omega
   have hg:getL (cat (Zbh l) q (E-q))=(gap,(putL gap).length,0):=by rw[hx,Yao];exact Zcz (by omega) _
   have HG:=Zh (Zgy wr A1 n1 c1 _ HB2.out);unfold gotV at HG;rw[hg]at HG;simp only at HG;obtain⟨j,hj⟩:=Ze ((putL gap).length);rw[<- hj]at HG;have hjn:j<=n1:=by rw[hj,<- hxl,hx];simp only[Yaq];omega
   have hdr:(cat (Zbh l) q (E-q)).drop j=putR (poss x.2)++(putR (atss x.2)++R):=by rw[hj,hx,Yao,Ya3,Yao]
   have HDR:=Zh hdr;have hpl:(poss x.2).length=x.2.length:=hnl.1;have hal:(atss x.2).length=x.2.length:=hnl.2;have HX:=Zh (show(x=pAt l q/\R=cat (Zbh l) (q+1) (E-(q+1))/\sl l Q q++[x]=sl l Q (q+1)/\Zaq l (q+1)=x.1)from⟨hxx,hRR,hsl1,hnx⟩);have HSL:=Zh hslen;have HZ:=Zh hzip;have HPO:=Zh (show Za4 (-1) (poss x.2)=true/\(∀ y∈poss x.2,y<=9223372036854775807)from⟨hpos,hfit.1⟩);have HAT:=Zh (show Za4 (-1) (atss x.2)=true/\(∀ y∈atss x.2,y<=9223372036854775807)from⟨hats,hfit.2⟩);have HPL:=Zh hpl;have HAL:=Zh hal;obtain⟨ns,hns⟩:=Ze x.2.length;have hns4:ns<=4096:=by omega
   obtain⟨DD,hDD⟩:=Ze x.1;rw[<- hDD]at hd hDg hu;have HNS:=Zh hns;have HDD:=Zh hDD;have hsl:=λw=>Zbf w A1 n1 c1 j hjn;have hw0:IntKind.i64.wrap (gap:Int)=(gap:Int):=Ybo _ (by omega);have hw1:IntKind.i64.wrap (1+(gap:Int))=1+(gap:Int):=Ybo _ (by omega);have hw2:IntKind.i64.wrap (D+(1+(gap:Int)))=D+(1+(gap:Int)):=Ybo _ (by omega);have HDG:=Zh hDg;have d1:decide ((0:Int)<(n1:Int))=true:=Yb0 (by omega);clear hx hun hsl1 hnx hslen hUP hRR hg hj hdr hpl hal hxx hD hgap hnl hzip hpos hats hfit hsp hns hDD hxl;obtain⟨wo,hwo⟩:=Ze wr;subst hwo;go_wp2_with fail;refine HG.out.mono ?_;rintro e w1 ⟨rfl,rfl⟩;have HL2:∀ w2,w2=w1.setCell ⟨w.heap.size,0,none⟩ (.slice (Zak A1 j c1) (n1-j) (c1-j))->LeftAt w2 w.heap.size (putR (poss x.2)++(putR (atss x.2)++R)):=λw2 e=>by
    have:=LeftAt.cut HB2.out b3 b4 HB5.out (Ybm _ w1) hjn e HB1.out
    rw[HDR.out]at this;exact this
   have HL2:=Zh HL2;go_wp2_with fail;obtain⟨w2,hw2⟩:=Ze (w1.setCell ⟨w.heap.size,0,none⟩ (.slice (Zak A1 j c1) (n1-j) (c1-j)));rw[<- hw2];have hl2:=HL2.out w2 hw2;have hk2:Kept (λi=>i=w.heap.size) w1 w2:=by rw[hw2];exact Ze2 (Kept.refl _ w1) 0 _
   have HR2:=Zh (HR.out.turn hk2 hl2);have HP2:=Zh (HP.out.keepIn (λi h1 h2=>hk2.block i h2 (λe=>by omega)) hk2.size);clear hw2 hk2 t0 z0 d1;refine(Zo6 hl2 (by rw[HPL.out,<- HNS.out];exact hns4) HPO.out.1 HPO.out.2 rfl).mono ?_;rintro e w3 ⟨v3,rfl,ho3,hl3,hk3⟩;have HR3:=Zh (HR2.out.turn hk3 hl3);have HP3:=Zh (HP2.out.keepIn (λi h1 h2=>hk3.block i h2 (λe=>by omega)) hk3.size);have HO3:=Zh ho3;obtain⟨AP,cP,rfl⟩:=Zac ho3;have hz3:=HR2.out.left.lt;clear hl2 ho3 hk3;go_wp2_with fail;refine(Zo6 hl3 (by rw[HAL.out,<- HNS.out];exact hns4) HAT.out.1 HAT.out.2 rfl).mono ?_;rintro e w4 ⟨v4,rfl,ho4,hl4,hk4⟩;have HR4:=Zh (HR3.out.turn hk4 hl4);have HP4:=Zh (HP3.out.keepIn (λi h1 h2=>hk4.block i h2 (λe=>by omega)) hk4.size);have HI3:Hid (IntsIn w4 AP ns (poss x.2)):=Zh (by
    have:=IntsIn.own (Zab HO3.out (w':=w4) λg hg=>hk4.block g (HO3.out.lt g hg).2 (λe=>by have:=(HO3.out.lt g hg).1;omega)) (by unfold maxLen;have:=HPL.out;have:=HNS.out;omega) (λy hy=>⟨by have:=Zd7 HPO.out.1 y hy;omega,HPO.out.2 y hy⟩)
    rwa [HPL.out,<- HNS.out]at this)
   obtain⟨AA,cA,rfl⟩:=Zac ho4;have HI4:Hid (IntsIn w4 AA ns (atss x.2)):=Zh (by
    have:=IntsIn.own ho4 (by unfold maxLen;have:=HAL.out;have:=HNS.out;omega) (λy hy=>⟨by have:=Zd7 HAT.out.1 y hy;omega,HAT.out.2 y hy⟩)
    rwa [HAL.out,<- HNS.out]at this)
   clear hl3 ho4 hl4 hk4;rw[HPL.out,HAL.out,<- HNS.out];go_wp2_with fail;refine Yb8 (S:=λ_=>True) (by kernel_rfl) trivial (λhHeld=>?_);obtain⟨u0,hu0⟩:=Ze w4.drew;rw[<- hu0];have hb0:Below w4.heap.size w4 u0:=by rw[hu0];exact(Ybm _ w4).drew
   have HB0:=Zh (HR4.out.more hb0);have HQ0:=Zh (HP4.out.below hb0);have HSP:=Zh (Zvx u0 AP AA ns cP cA _ _ (HI3.out.below hb0) (HI4.out.below hb0) hns4);rw[HZ.out]at HSP;have hsq:(sl l Q q).length<=4096:=by have:=HSL.out;have:=HV.out.few;omega
   have hfx:Zaj DD:=by unfold Zaj;omega
   clear hu0 hb0;have HFP:Hid (∀ p∈x.2,Zaj p.1/\Zaj p.2):=Zh (λp hp=>by
    have h1:=HPO.out.2 p.1 (List.mem_map_of_mem hp);have h2:=HAT.out.2 p.2 (List.mem_map_of_mem hp);have h3:=Zd7 HPO.out.1 p.1 (List.mem_map_of_mem hp);have h4:=Zd7 HAT.out.1 p.2 (List.mem_map_of_mem hp);unfold Zaj;omega)
   have HOW:Hid (∀ g,vv.ownBlock=some g->g<u0.heap.size):=Zh (λg hg=>by
    obtain⟨_,_,h1,_⟩:=HQ0.out;exact(h1.lt g hg).2)
   refine tk 0 ?_;(try simp only[Act.put,lz3,lz4,lz5]);refine tk 2 ?_;(try simp only[Act.put,lz3,lz4,lz5]);refine tk 3 ?_;(try simp only[Act.put,lz3,lz4,lz5]);refine tk 4 ?_;(try simp only[Act.put,lz3,lz4,lz5]);refine rd2 1 5 ?st5 ?st6;case st5=>
    intro K hK;have yq1:=HB0.out.blk.cell 0;simp only[lz0,lz1]at yq1;go_simp;clear yq1;refine hK.out _ _ trivial (λht7=>?_);clear hK K;(try simp only[Act.put,lz3,lz4,lz5]);refine rd1 5 ?st8;case st8=>
     intro K hK;go_simp;refine HSP.out.mono ?_;rintro e uq2 ⟨svq3,rfl,hoq4,hbq5⟩;obtain⟨SAq8,scq9,rfl⟩:=Zac hoq4;have Bq6:=Zh (HB0.out.more hbq5);have Qq7:=Zh (HQ0.out.below hbq5);have Hhoq4:=Zh hoq4;have Hhbq5:=Zh hbq5;clear hoq4 hbq5;go_wp2_with fail;refine hK.out _ _ trivial (λht9=>?_);clear hK K;(try simp only[Act.put,lz3,lz4,lz5]);refine tk 6 ?_;(try simp only[Act.put,lz3,lz4,lz5]);refine rd1 7 ?st11;case st11=>
      intro K hK;go_simp;obtain⟨uq10,huq15⟩:=Ze (uq2.alloc (.cells #[.int .i64 DD,.slice SAq8 ns scq9] 62));have Nq11:Hid (Blk uq10 uq2.heap.size 62 #[.int .i64 DD,.slice SAq8 ns scq9]):=Zh (by rw[huq15];exact Blk.new _ _ _);rw[<- huq15];have hbq16:Below uq2.heap.size uq2 uq10:=by rw[huq15];exact(Ybm _ uq2).alloc (Yar _) _
      have Bq12:=Zh (Bq6.out.more hbq16);have Qq13:=Zh (Qq7.out.below hbq16);have SOq14:=Zh (Zab Hhoq4.out (w':=uq10) λg hg=>hbq16.block g (Hhoq4.out.lt g hg).2);have HShbq16:=Zh hbq16.size;clear huq15 hbq16;refine hK.out _ _ trivial (λht12=>?_);clear hK K;(try simp only[Act.put,lz3,lz4,lz5]);refine rd1 8 ?st13;case st13=>
       intro K hK;obtain⟨Rq24,kq25,kq26,kq27⟩:=Qq13.out;refine Zar _ rfl (.tmp 35) (.tmp 41) 56 rfl (w.heap.size+3) 62 i1 _ 2 32 Tryz.underlying56 hi1 hy0 hy1 hy2 rfl (by decide) _ _ _ rfl kq26 ⟨uq2.heap.size,0,none⟩ 1 1 (Zan (DD,.slice SAq8 ns scq9)) rfl rfl (Zda (p:=(DD,.slice SAq8 ns scq9)) Nq11.out) (Zfl _ _ _ _) (by unfold maxLen;omega) (by omega) (by have:=Bq12.out.blk.lt;omega) ?_;intro vq21 uq17 hwq18 hgq19 hlq20;have Bq22:=Zh (Bq12.out.grown hgq19 (λg hg=>(kq26.lt g hg).1));have Qq23:Hid (PostsO uq17 (w.heap.size+3) vq21 (sl l Q q++[x])):=Zh (PostsO.push kq25 kq27 (p:=(DD,.slice SAq8 ns scq9)) ⟨HDD.out,by rw[<- HDD.out];exact hfx,_,_,by simp only;rw[HNS.out],by rw[<- HNS.out];exact Zbi SOq14.out,by
         rw[<- HNS.out];exact PairsIn.ownTwo SOq14.out HNS.out.symm (by unfold maxLen;omega) (λp hp=>HFP.out p hp),λad e h0=>by
         have q1:=SOq14.out.lt ad.block (by rw[e];rfl);refine⟨q1.2,by have:=HB0.out.blk.lt;omega,λe2=>?_⟩;have q2:=(HOW.out _ e2)
         omega⟩ hwq18 hgq19 (by
         rcases hlq20 with e|e
         ·exact .inl e
         ·exact .inr ⟨_,e,Yar _⟩))
       clear hwq18 hgq19 hlq20 kq25 kq26 kq27;refine hK.out _ _ trivial (λht14=>?_);clear hK K;(try simp only[Act.put,lz3,lz4,lz5]);refine tk 9 ?_;(try simp only[Act.put,lz3,lz4,lz5]);refine rd1 10 ?st16;case st16=>
        intro K hK;have yq28:=Bq22.out.blk.cell 0;have zq29:=Bq22.out.blk.frozen 0;simp only[lz0,lz1]at yq28;obtain⟨Avq21,cvq21,evq21⟩:∃ A c,vq21=.slice A ((sl l Q q).length+1) c:=by
         obtain⟨_,_,h1,_⟩:=Qq23.out;have:=Zac h1
         simpa using this
        subst evq21;go_simp;clear yq28 zq29;have Bq30:=Zh (Bq22.out.put (.slice Avq21 ((sl l Q q).length+1) cvq21));have Qq31:=Zh (Qq23.out.keepIn (w':=uq17.setCell ⟨w.heap.size+2,0,none⟩ (.slice Avq21 ((sl l Q q).length+1) cvq21)) (λi h1 h2=>Zad _ _ _ (by simp only;omega)) (by rw[Zai];exact Yar _));refine hK.out _ _ trivial (λht17=>?_);clear hK K;(try simp only[Act.put,lz3,lz4,lz5]);refine Yb9 (by kernel_rfl) ?_ _;go_wp2;go_roundw;case rel=>
         obtain⟨e1,e2,e3,e4⟩:=HX.out;have hb:=Bq30.out;have hq:=Qq31.out;rw[e2]at hb;rw[e3]at hq;exact⟨q+1,_,by omega,by omega,by rw[e4,HDD.out],hb,hq⟩
        case measure=>simp[Go.RowKit.intOf];omega
   case st6=>
    intro K hK;go_simp;refine HSP.out.mono ?_;rintro e uq32 ⟨svq33,rfl,hoq34,hbq35⟩;obtain⟨SAq38,scq39,rfl⟩:=Zac hoq34;have Bq36:=Zh (HB0.out.more hbq35);have Qq37:=Zh (HQ0.out.below hbq35);have Hhoq34:=Zh hoq34;have Hhbq35:=Zh hbq35;clear hoq34 hbq35;go_wp2_with fail;refine hK.out _ _ trivial (λht18=>?_);clear hK K;(try simp only[Act.put,lz3,lz4,lz5]);refine tk 6 ?_;(try simp only[Act.put,lz3,lz4,lz5]);refine rd2 1 7 ?st20 ?st21;case st20=>
     intro K hK;have yq40:=Bq36.out.blk.cell 0;simp only[lz0,lz1]at yq40;go_simp;clear yq40;refine hK.out _ _ trivial (λht22=>?_);clear hK K;(try simp only[Act.put,lz3,lz4,lz5]);refine rd1 7 ?st23;case st23=>
      intro K hK;go_simp;obtain⟨uq41,huq46⟩:=Ze (uq32.alloc (.cells #[.int .i64 DD,.slice SAq38 ns scq39] 62));have Nq42:Hid (Blk uq41 uq32.heap.size 62 #[.int .i64 DD,.slice SAq38 ns scq39]):=Zh (by rw[huq46];exact Blk.new _ _ _);rw[<- huq46];have hbq47:Below uq32.heap.size uq32 uq41:=by rw[huq46];exact(Ybm _ uq32).alloc (Yar _) _
      have Bq43:=Zh (Bq36.out.more hbq47);have Qq44:=Zh (Qq37.out.below hbq47);have SOq45:=Zh (Zab Hhoq34.out (w':=uq41) λg hg=>hbq47.block g (Hhoq34.out.lt g hg).2);have HShbq47:=Zh hbq47.size;clear huq46 hbq47;refine hK.out _ _ trivial (λht24=>?_);clear hK K;(try simp only[Act.put,lz3,lz4,lz5]);refine rd1 8 ?st25;case st25=>
       intro K hK;obtain⟨Rq55,kq56,kq57,kq58⟩:=Qq44.out;refine Zar _ rfl (.tmp 35) (.tmp 41) 56 rfl (w.heap.size+3) 62 i1 _ 2 32 Tryz.underlying56 hi1 hy0 hy1 hy2 rfl (by decide) _ _ _ rfl kq57 ⟨uq32.heap.size,0,none⟩ 1 1 (Zan (DD,.slice SAq38 ns scq39)) rfl rfl (Zda (p:=(DD,.slice SAq38 ns scq39)) Nq42.out) (Zfl _ _ _ _) (by unfold maxLen;omega) (by omega) (by have:=Bq43.out.blk.lt;omega) ?_;intro vq52 uq48 hwq49 hgq50 hlq51;have Bq53:=Zh (Bq43.out.grown hgq50 (λg hg=>(kq57.lt g hg).1));have Qq54:Hid (PostsO uq48 (w.heap.size+3) vq52 (sl l Q q++[x])):=Zh (PostsO.push kq56 kq58 (p:=(DD,.slice SAq38 ns scq39)) ⟨HDD.out,by rw[<- HDD.out];exact hfx,_,_,by simp only;rw[HNS.out],by rw[<- HNS.out];exact Zbi SOq45.out,by
         rw[<- HNS.out];exact PairsIn.ownTwo SOq45.out HNS.out.symm (by unfold maxLen;omega) (λp hp=>HFP.out p hp),λad e h0=>by
         have q1:=SOq45.out.lt ad.block (by rw[e];rfl);refine⟨q1.2,by have:=HB0.out.blk.lt;omega,λe2=>?_⟩;have q2:=(HOW.out _ e2)
         omega⟩ hwq49 hgq50 (by
         rcases hlq51 with e|e
         ·exact .inl e
         ·exact .inr ⟨_,e,Yar _⟩))
       clear hwq49 hgq50 hlq51 kq56 kq57 kq58;refine hK.out _ _ trivial (λht26=>?_);clear hK K;(try simp only[Act.put,lz3,lz4,lz5]);refine tk 9 ?_;(try simp only[Act.put,lz3,lz4,lz5]);refine rd1 10 ?st28;case st28=>
        intro K hK;have yq59:=Bq53.out.blk.cell 0;have zq60:=Bq53.out.blk.frozen 0;simp only[lz0,lz1]at yq59;obtain⟨Avq52,cvq52,evq52⟩:∃ A c,vq52=.slice A ((sl l Q q).length+1) c:=by
         obtain⟨_,_,h1,_⟩:=Qq54.out;have:=Zac h1
         simpa using this
        subst evq52;go_simp;clear yq59 zq60;have Bq61:=Zh (Bq53.out.put (.slice Avq52 ((sl l Q q).length+1) cvq52));have Qq62:=Zh (Qq54.out.keepIn (w':=uq48.setCell ⟨w.heap.size+2,0,none⟩ (.slice Avq52 ((sl l Q q).length+1) cvq52)) (λi h1 h2=>Zad _ _ _ (by simp only;omega)) (by rw[Zai];exact Yar _));refine hK.out _ _ trivial (λht29=>?_);clear hK K;(try simp only[Act.put,lz3,lz4,lz5]);refine Yb9 (by kernel_rfl) ?_ _;go_wp2;go_roundw;case rel=>
         obtain⟨e1,e2,e3,e4⟩:=HX.out;have hb:=Bq61.out;have hq:=Qq62.out;rw[e2]at hb;rw[e3]at hq;exact⟨q+1,_,by omega,by omega,by rw[e4,HDD.out],hb,hq⟩
        case measure=>simp[Go.RowKit.intOf];omega
    case st21=>
     intro K hK;go_simp;obtain⟨uq63,huq68⟩:=Ze (uq32.alloc (.cells #[.int .i64 DD,.slice SAq38 ns scq39] 62));have Nq64:Hid (Blk uq63 uq32.heap.size 62 #[.int .i64 DD,.slice SAq38 ns scq39]):=Zh (by rw[huq68];exact Blk.new _ _ _);rw[<- huq68];have hbq69:Below uq32.heap.size uq32 uq63:=by rw[huq68];exact(Ybm _ uq32).alloc (Yar _) _
     have Bq65:=Zh (Bq36.out.more hbq69);have Qq66:=Zh (Qq37.out.below hbq69);have SOq67:=Zh (Zab Hhoq34.out (w':=uq63) λg hg=>hbq69.block g (Hhoq34.out.lt g hg).2);have HShbq69:=Zh hbq69.size;clear huq68 hbq69;refine hK.out _ _ trivial (λht30=>?_);clear hK K;(try simp only[Act.put,lz3,lz4,lz5]);refine rd1 1 ?st31;case st31=>
      intro K hK;have yq70:=Bq65.out.blk.cell 0;simp only[lz0,lz1]at yq70;go_simp;clear yq70;refine hK.out _ _ trivial (λht32=>?_);clear hK K;(try simp only[Act.put,lz3,lz4,lz5]);refine rd1 8 ?st33;case st33=>
       intro K hK;obtain⟨Rq78,kq79,kq80,kq81⟩:=Qq66.out;refine Zar _ rfl (.tmp 35) (.tmp 41) 56 rfl (w.heap.size+3) 62 i1 _ 2 32 Tryz.underlying56 hi1 hy0 hy1 hy2 rfl (by decide) _ _ _ rfl kq80 ⟨uq32.heap.size,0,none⟩ 1 1 (Zan (DD,.slice SAq38 ns scq39)) rfl rfl (Zda (p:=(DD,.slice SAq38 ns scq39)) Nq64.out) (Zfl _ _ _ _) (by unfold maxLen;omega) (by omega) (by have:=Bq65.out.blk.lt;omega) ?_;intro vq75 uq71 hwq72 hgq73 hlq74;have Bq76:=Zh (Bq65.out.grown hgq73 (λg hg=>(kq80.lt g hg).1));have Qq77:Hid (PostsO uq71 (w.heap.size+3) vq75 (sl l Q q++[x])):=Zh (PostsO.push kq79 kq81 (p:=(DD,.slice SAq38 ns scq39)) ⟨HDD.out,by rw[<- HDD.out];exact hfx,_,_,by simp only;rw[HNS.out],by rw[<- HNS.out];exact Zbi SOq67.out,by
         rw[<- HNS.out];exact PairsIn.ownTwo SOq67.out HNS.out.symm (by unfold maxLen;omega) (λp hp=>HFP.out p hp),λad e h0=>by
         have q1:=SOq67.out.lt ad.block (by rw[e];rfl);refine⟨q1.2,by have:=HB0.out.blk.lt;omega,λe2=>?_⟩;have q2:=(HOW.out _ e2)
         omega⟩ hwq72 hgq73 (by
         rcases hlq74 with e|e
         ·exact .inl e
         ·exact .inr ⟨_,e,Yar _⟩))
       clear hwq72 hgq73 hlq74 kq79 kq80 kq81;refine hK.out _ _ trivial (λht34=>?_);clear hK K;(try simp only[Act.put,lz3,lz4,lz5]);refine tk 9 ?_;(try simp only[Act.put,lz3,lz4,lz5]);refine rd1 10 ?st36;case st36=>
        intro K hK;have yq82:=Bq76.out.blk.cell 0;have zq83:=Bq76.out.blk.frozen 0;simp only[lz0,lz1]at yq82;obtain⟨Avq75,cvq75,evq75⟩:∃ A c,vq75=.slice A ((sl l Q q).length+1) c:=by
         obtain⟨_,_,h1,_⟩:=Qq77.out;have:=Zac h1
         simpa using this
        subst evq75;go_simp;clear yq82 zq83;have Bq84:=Zh (Bq76.out.put (.slice Avq75 ((sl l Q q).length+1) cvq75));have Qq85:=Zh (Qq77.out.keepIn (w':=uq71.setCell ⟨w.heap.size+2,0,none⟩ (.slice Avq75 ((sl l Q q).length+1) cvq75)) (λi h1 h2=>Zad _ _ _ (by simp only;omega)) (by rw[Zai];exact Yar _));refine hK.out _ _ trivial (λht37=>?_);clear hK K;(try simp only[Act.put,lz3,lz4,lz5]);refine Yb9 (by kernel_rfl) ?_ _;go_wp2;go_roundw;case rel=>
         obtain⟨e1,e2,e3,e4⟩:=HX.out;have hb:=Bq84.out;have hq:=Qq85.out;rw[e2]at hb;rw[e3]at hq;exact⟨q+1,_,by omega,by omega,by rw[e4,HDD.out],hb,hq⟩
        case measure=>simp[Go.RowKit.intOf];omega
  ·obtain rfl:q=E:=by omega
   have hz:n1=0:=by rw[<- hxl,Ybq];rfl
   have d1:decide ((0:Int)<(n1:Int))=false:=Ybt (by omega);have y1:=HR.out.blk.cell 0;have y2:=HR.out.res.cell 0;have z2:=HR.out.res.frozen 0;simp only[lz0,lz1]at y1 y2;obtain⟨Av,nv,cv,rfl⟩:∃ A n c,vv=.slice A n c:=by
    obtain⟨_,_,h1,_⟩:=HP.out;obtain⟨A,c,e⟩:=Zac h1;exact⟨A,_,c,e⟩
   clear hxl;go_wp2;refine bodyPost_ret (results_cell_row rfl _ _ (w.heap.size+1) 143 #[.slice Av nv cv] (0,0) _ rfl ?_ Tryz.underlying143 rfl Zwy) rfl ?_
   ·have:=HR.out.res.set_ 0 (.slice Av nv cv)
    unfold Blk at this;simpa using this
   ·refine⟨_,rfl,(HP.out.keepIn (λi h1 h2=>Zad _ _ _ (by simp only;omega)) (by rw[Zai];exact Yar _)).le (by omega),HR.out.below.setCell (p:=⟨w.heap.size+1,0,none⟩) (by simp only;omega) _⟩
end Go.Proofs.YthcjikpabpgpfaaGreat
