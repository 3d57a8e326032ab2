import Derived.Test.YthcjikpabpgpfaaGreatZp5
import Derived.Deep.RegionHeld3
import Derived.Deep.RegionLaw
import Derived.Test.YthcjikpabpgpfaaGreatZp6
set_option linter.unusedSimpArgs false
set_option maxHeartbeats 16000000
set_option maxRecDepth 100000
namespace Go.Proofs.YthcjikpabpgpfaaGreat
section
open Go.RowKit Go.Maps Go.WideMaps
def vocV (A B:Option Addr) (n m ca cb:Nat):Value:=.agg #[.slice A n ca,.slice B m cb]
structure VocSee (w:World) (A B:Option Addr) (n m ca cb:Nat) (V:Voc):Prop where
 tok:RowsSee w A n V.tok
 mer:MgSee w B m V.mer
 capT:n<=ca
 capM:m<=cb
theorem VocSee.below {w w':World} {A B:Option Addr} {n m ca cb:Nat} {V:Voc} (h:VocSee w A B n m ca cb V) (hb:Below w.heap.size w w'):VocSee w' A B n m ca cb V:=⟨h.tok.below hb,h.mer.below hb,h.capT,h.capM⟩
theorem Zel {f:Nat->Bool} {n k:Nat} (hk:k<n) (h:f k=false):(List.range n).all f=false:=by
 rw[List.all_eq_false];exact⟨k,List.mem_range.2 hk,by simp[h]⟩
theorem Zce {f:Nat->Bool} {n:Nat} (h:∀ k,k<n->f k=true):(List.range n).all f=true:=by
 rw[List.all_eq_true];intro k hk;exact h k (List.mem_range.1 hk)
end
section
theorem Qci {L:List MDoc} {i:Nat} (h:i<L.length):L[i]?=some (mD L i):=by
 unfold mD;rw[Yaw,Yax h];rfl
theorem Zu9 {x:MDoc} {t:Int} (h:(Zdw x t).length=0):t ∉ x.T:=λhm=>by
 obtain⟨k,hk,rfl⟩:=List.getElem_of_mem hm;have h1:((k:Int),x.S.getD k 0)∈Zdw x x.T[k]:=spotUp_mem.2 ⟨k,hk,by rw[Yaw,Yax hk];rfl,rfl⟩;have:=List.length_pos_of_mem h1
 omega
theorem Zue {x:MDoc} {t:Int} (h:0<(Zdw x t).length):t∈x.T:=by
 obtain⟨s,hs⟩:=List.exists_mem_of_length_pos h;obtain⟨k,hk,h1,-⟩:=spotUp_mem.1 hs;rw[<- h1,Yaw,Yax hk];exact Yay hk
theorem Zl4 {L:List MDoc} {t:Int}:∀ {i:Nat},i<=L.length->(0<(Zb5 L t i).length↔∃ y∈L.take i,t∈y.T)
 | 0,_=>by simp[Zb5]
 | i+1,h=>by
  rw[Zb5,Yaq,Ya5,Qci (by omega)];have ih:=Zl4 (L:=L) (t:=t) (i:=i) (by omega);unfold Zed;by_cases h0:0<(Zdw (mD L i) t).length
  ·rw[Yag h0]
   refine⟨λ_=>⟨mD L i,by simp,Zue h0⟩,λ_=>by simp⟩
  ·rw[Yaf h0]
   rw[List.length_nil,Nat.add_zero,ih];refine⟨λ⟨y,h1,h2⟩=>⟨y,by simp[h1],h2⟩,λ⟨y,h1,h2⟩=>?_⟩;rcases Ybj.1 h1 with h3|h3
   ·exact⟨y,h3,h2⟩
   ·simp at h3
    subst h3;exact absurd h2 (Zu9 (by omega))
theorem Zyg (L:List MDoc) (t:Int):decide (0<(Zax L t).length)=decide (t∈Zas L):=by
 rw[Bool.eq_iff_iff,decide_eq_true_iff,decide_eq_true_iff,terms_mem];unfold Zax;rw[Zl4 (Yar _),Ya6]
theorem Zl0 (x:MDoc) (t:Int):∀ k,k<=x.T.length->(Zbu x t k).length=(x.T.take k).count t
 | 0,_=>by simp[Zbu]
 | k+1,h=>by
  have ih:=Zl0 x t k (by omega);have h1:x.T[k]?=some (x.T.getD k 0):=by rw[Yaw,Yax (by omega)];rfl
  rw[Zbu,Ya5,h1,List.count_append];by_cases e:x.T.getD k 0=t
  ·rw[Yag e,Yaq,ih,e]
   simp
  ·rw[Yaf e,ih]
   have h2:List.count t (some (x.T.getD k 0)).toList=0:=List.count_eq_zero.2 (by simp;exact λh=>e h.symm);rw[h2];rfl
theorem Zql (x:MDoc) (t:Int):(Zdw x t).length=x.T.count t:=by
 unfold Zdw;rw[Zl0 x t _ (Yar _),Ya6]
def Zcl (l:List Pst):Nat:=(l.map λp=>p.2.length).sum
theorem Zhj (L:List MDoc) (t:Int):∀ k,k<=L.length->Zcl (Zb5 L t k)=((L.take k).map λx=>x.T.count t).sum
 | 0,_=>by simp[Zb5,Zcl]
 | k+1,h=>by
  have ih:=Zhj L t k (by omega);unfold Zcl at ih;rw[Zb5,Ya5,Qci (by omega)];unfold Zcl;rw[Ybe,Ybe,List.sum_append,List.sum_append,ih];unfold Zed;have hc:=Zql (mD L k) t;split
  ·simp[hc]
  ·simp
   omega
theorem Zpc:∀ (T l:List Int),l.Nodup->(∀ a∈T,a∈l)->(l.map λt=>T.count t).sum=T.length
 | [],l,_,_=>by
  rw[show(λt:Int=>List.count t [])=λ_=>0 by funext t;simp]
  induction l with
  | nil=>rfl
  | cons a r ih=>simp_all
 | a :: T,l,hn,hm=>by
  have ih:=Zpc T l hn (λb hb=>hm b (Yap _ hb));have h1:∀ m:List Int,(m.map λt=>(a :: T).count t).sum=(m.map λt=>T.count t).sum+m.count a:=λm=>by
   induction m with
   | nil=>rfl
   | cons b r ih2=>
    rw[Ya2,List.sum_cons,ih2,Ya2,List.sum_cons,List.count_cons,List.count_cons];by_cases e:a=b
    ·subst e
     simp;omega
    ·have e2:¬ b=a:=λh=>e h.symm
     simp[e,e2];omega
  rw[h1,ih,hn.count (a:=a),Yag (hm a (Yam ..))];rfl
theorem Qa5 {α:Type} (l:List Int) (L:List α) (f:Int->α->Nat):(l.map λt=>(L.map λx=>f t x).sum).sum=(L.map λx=>(l.map λt=>f t x).sum).sum:=by
 induction L with
 | nil=>
  simp only[List.map_nil,List.sum_nil]
  induction l with
  | nil=>rfl
  | cons a r ih=>simp_all
 | cons x r ih=>
  simp only[Ya2,List.sum_cons];rw[<- ih];clear ih
  induction l with
  | nil=>rfl
  | cons a s ih2=>
   simp only[Ya2,List.sum_cons];omega
theorem Zqk (L:List MDoc):((Zas L).map λt=>Zcl (Zax L t)).sum=totT L:=by
 have hn:(Zas L).Nodup:=(Zna L).imp λh=>by omega
 have h1:(λt=>Zcl (Zax L t))=λt=>(L.map λx=>x.T.count t).sum:=by
  funext t;unfold Zax;rw[Zhj L t _ (Yar _),Ya6]
 rw[h1,Qa5];unfold totT;congr 1;refine List.map_congr_left λx hx=>Zpc x.T _ hn λa ha=>terms_mem.2 ⟨x,hx,ha⟩
end
section
open Go.RowKit Go.Maps Go.WideMaps
def PostsG (w:World) (G:Nat->Prop) (v:Value) (L:List (Int×List (Int×Int))):Prop:=
 ∃ R:List (Int×Value),R.length=L.length/\w.ownsRow 0 62 2 v L.length (R.flatMap Zan)/\(∀ g,v.ownBlock=some g->G g)/\∀ (i:Nat) (p:Int×Value) (x:Int×List (Int×Int)),R[i]?=some p->L[i]?=some x->PostAt w x p λi=>G i/\v.ownBlock≠some i
section
variable {w w':World} {G G':Nat->Prop} {v v':Value} {L:List (Int×List (Int×Int))}
theorem PostsG.nil (w:World) (G:Nat->Prop):PostsG w G (.slice none 0 0) []:=⟨[],rfl,⟨rfl,.inl ⟨rfl,rfl⟩⟩,(λg e=>by cases e),(λi p x h _=>by simp at h)⟩
theorem PostsG.keep (h:PostsG w G v L) (hk:∀ i,i<w.heap.size->G i->w'.heap[i]?=w.heap[i]?) (hs:w.heap.size<=w'.heap.size) (hG:∀ i,G i->G' i):PostsG w' G' v L:=by
 obtain⟨R,h0,h1,h2,h3⟩:=h;exact⟨R,h0,Zab h1 λg hg=>hk g (h1.lt g hg).2 (h2 g hg),λg hg=>hG g (h2 g hg),λi p x e1 e2=>(h3 i p x e1 e2).mono (λi hi hf=>⟨hk i hi hf.1,hG i hf.1,hf.2⟩) hs⟩
theorem PostsG.below (h:PostsG w G v L) (hb:Below w.heap.size w w'):PostsG w' G v L:=h.keep (λi hi _=>hb.block i hi) hb.size λ_ h=>h
theorem PostsG.slice (h:PostsG w G v L):∃ A c,v=.slice A L.length c/\L.length<=c:=by
 obtain⟨R,h0,h1,h2,h3⟩:=h;obtain⟨A,c,rfl⟩:=Zac h1;exact⟨A,c,rfl,Zbi h1⟩
theorem PostsG.push {w0:World} {d:Int} {s:List (Int×Int)} {A:Option Addr} {c:Nat} {R:List (Int×Value)} (h0:R.length=L.length) (h2:∀ g,v.ownBlock=some g->G g/\g<w0.heap.size) (h3:∀ (i:Nat) (p:Int×Value) (x:Int×List (Int×Int)),R[i]?=some p->L[i]?=some x->PostAt w x p λi=>G i/\v.ownBlock≠some i)
  (hd:Zaj d) (hs:PairsIn w A s.length s) (hc:s.length<=c) (hn:∀ ad,A=some ad->0<s.length->w0.heap.size<=ad.block/\ad.block<w.heap.size) (hw:w0.heap.size<=w.heap.size)
  (ho:w'.ownsRow 0 62 2 v' (L.length+1) (R.flatMap Zan++Zan (d,.slice A s.length c))) (hg:w.grownBy w' v.ownBlock) (hl:v'.ownBlock=v.ownBlock\/v'.ownBlock=some w.heap.size):
  PostsG w' (λi=>G i\/(w0.heap.size<=i/\i<w'.heap.size)) v' (L++[(d,s)]):=by
 have keep:∀ {y q} {f:Nat->Prop},PostAt w y q (λi=>f i/\v.ownBlock≠some i)->(∀ i,f i->G i\/w0.heap.size<=i)->PostAt w' y q λi=>(G i\/(w0.heap.size<=i/\i<w'.heap.size))/\v'.ownBlock≠some i:=λh hf=>h.mono (λi hi hfi=>⟨hg.block i hi (λe=>hfi.2 e.symm),(hf i hfi.1).imp id (λh=>⟨h,Ya7 hi hg.size⟩),by
  rcases hl with e|e
  ·rw[e];exact hfi.2
  ·rw[e]
   intro e2;have:=Ya9 e2
   omega⟩) hg.size
 refine⟨R++[(d,.slice A s.length c)],by simp[h0],by simpa using ho,λg e=>?_,λi q y e1 e2=>?_⟩
 ·have hlt:=(ho.lt g e).2
  rcases hl with e'|e'
  ·exact .inl (h2 g (by rw[<- e'];exact e)).1
  ·rw[e]at e'
   cases e'
   exact .inr ⟨hw,hlt⟩
 ·rcases Yab i L.length with hi|hi
  ·rw[Yba (by omega)]at e1 e2
   exact keep (h3 i q y e1 e2) λi h=>.inl h
  ·have hlt:=(Ybb.1 e2).1
   simp at hlt;obtain rfl:i=L.length:=by omega
   rw[Ybc (by omega)]at e1 e2;simp[h0]at e1 e2;subst e1 e2;refine keep (f:=λi=>w0.heap.size<=i) ⟨rfl,hd,A,c,rfl,hc,hs,λad e h0=>⟨(hn ad e h0).2,(hn ad e h0).1,λe2=>?_⟩⟩ λi h=>.inr h;have:=(h2 _ e2).2
   have:=(hn ad e h0).1
   omega
theorem PostsG.see {n c:Nat} {A:Option Addr} (h:PostsG w G (.slice A n c) L) (hn:L.length=n) (h63:n<=maxLen):PostsSee w A n L:=by
 obtain⟨R,h0,h1,h2,h3⟩:=h;have:PostsO w 0 (.slice A n c) L:=⟨R,h0,h1,λi p x e1 e2=>(h3 i p x e1 e2).mono (λi _ hf=>⟨rfl,Ybd _,hf.2⟩) (Yar _)⟩
 exact this.see hn h63
end
theorem Ze9 {w:World} (A B:Option Addr) (n m ca cb:Nat) (a b:List (Int×Int)) (ha:PairsIn w A n a) (hb:PairsIn w B m b) {r:Bool} (h:decide (a=b)=r) {q z:Nat}:
  Calls Tryz.prog 112 #[.slice A n ca,.slice B m cb] (w.drewN (q+z)) λe w''=>e=.returned (.bool r)/\∃ m,w''=w.drewN (q+m):=by
 have h1:=Zj6 (w.drewN (q+z)) A B n m ca cb a b (ha.drewN _) (hb.drewN _);rw[h]at h1;exact h1.mono λe w'' ⟨he,q2,hw⟩=>⟨he,z+q2,by rw[hw,Ybs,Nat.add_assoc]⟩
theorem Zt3 (w:World) (A B:Option Addr) (n m ca cb:Nat) (a b:List Pst) (ha:PostsSee w A n a) (hb:PostsSee w B m b):
  Calls Tryz.prog 60 #[.slice A n ca,.slice B m cb] w λe w'=>e=.returned (.bool (decide (a=b)))/\∃ q,w'=w.drewN q:=by
 have HA:=Zh ha;have HB:=Zh hb;have hn63:n<=9223372036854775807:=ha.fit;by_cases hnm:n=m
 ·subst hnm
  have d0:(((n:Nat):Int) != ((n:Nat):Int))=false:=by simp
  obtain⟨r,hr⟩:=Ze (decide (a=b));rw[<- hr];have HR:=Zh hr;clear ha hb hr;go_enter Tryz.func60,Tryz.ntmps60;go_wp2;go_loopw [5] (λi wr=>∃ k q:Nat,k<=n/\i=.int .i64 k/\a.take k=b.take k/\wr=w.drewN q) (λi _=>n-(intOf i).toNat);case atStart=>exact⟨0,0,by omega,rfl,by simp,rfl⟩
  case round=>
   obtain⟨k,q,hk,rfl,htk,rfl⟩:=hrel;have HTK:=Zh htk;clear htk;rcases Yab k n with hlt|hge
   ·have hlt':(k:Int)<(n:Int):=by omega
    have p0:(0:Int)<=(k:Int):=by omega
    obtain⟨pa,x,SA,da,rfl,hx,-,a0,a1,-,sa⟩:=HA.out.at k hlt;obtain⟨pb,y,SB,db,rfl,hy,-,c0,c1,-,sb⟩:=HB.out.at k hlt;obtain⟨x1,x2⟩:=x;obtain⟨y1,y2⟩:=y;simp only at a0 a1 c0 c1 sa sb;have a0':∀ q,(w.drewN q).cell? (pa.add (k*2))=some (.int .i64 x1):=λ_=>a0;have a1':∀ q,(w.drewN q).cell? ⟨(pa.add (k*2)).block,(pa.add (k*2)).off+1,none⟩=some (.slice SA x2.length da):=λ_=>a1;have c0':∀ q,(w.drewN q).cell? (pb.add (k*2))=some (.int .i64 y1):=λ_=>c0;have c1':∀ q,(w.drewN q).cell? ⟨(pb.add (k*2)).block,(pb.add (k*2)).off+1,none⟩=some (.slice SB y2.length db):=λ_=>c1;have hw5:IntKind.i64.wrap ((k:Int)+1)=(k:Int)+1:=Ybo _ (by omega);have ta:a.take (k+1)=a.take k++[(x1,x2)]:=by rw[Ya5,hx];rfl
    have tb:b.take (k+1)=b.take k++[(y1,y2)]:=by rw[Ya5,hy];rfl
    have TA:=Zh ta;have TB:=Zh tb;have HX:=Zh hx;have HY:=Zh hy;have SSA:=Zh sa;have SSB:=Zh sb;clear a0 a1 c0 c1 ta tb hx hy sa sb;by_cases hd:x1=y1
    ·subst hd
     have dd:(x1 != x1)=false:=by simp
     cases hs:decide (x2=y2)with
     | true=>
      go_wp2_with fail;go_quiet (first|(go_at_call 112;refine Ze9 SA SB x2.length y2.length da db x2 y2 SSA.out SSB.out hs));have hxy:=of_decide_eq_true hs;have HXY:=Zh hxy;clear hxy hs;go_wp2;go_roundw;case rel=>exact⟨k+1,q+nq,by omega,by go_num,by rw[TA.out,TB.out,HTK.out,HXY.out],by first|rfl|rw[Ybs]⟩
      case measure=>simp[intOf];omega
     | false=>
      go_wp2_with fail;go_quiet (first|(go_at_call 112;refine Ze9 SA SB x2.length y2.length da db x2 y2 SSA.out SSB.out hs));obtain rfl:r=false:=by
       rw[HR.out];refine Ybt λe=>?_;have h1:=HX.out;rw[e,HY.out]at h1;exact of_decide_eq_false hs (Prod.mk.inj (Ya9 h1)).2.symm
      go_wp2;go_ret;exact⟨rfl,q+nq,by rw[Ybs]⟩
    ·have dd:(x1 != y1)=true:=by simpa using hd
     obtain rfl:r=false:=by
      rw[HR.out];refine Ybt λe=>?_;have h1:=HX.out;rw[e,HY.out]at h1;exact hd (Prod.mk.inj (Ya9 h1)).1.symm
     go_wp2_with fail;go_quiet (fail);go_wp2;go_ret;exact⟨rfl,q+nq,by rw[Ybs]⟩
   ·obtain rfl:k=n:=by omega
    have hlz:¬ ((k:Int)<(k:Int)):=by omega
    obtain rfl:r=true:=by
     have h1:=HTK.out;rw[Yav (by rw[HA.out.len];exact Yar _),Yav (by rw[HB.out.len];exact Yar _)]at h1;rw[HR.out,h1];simp
    go_wp2;go_ret;exact⟨rfl,_,rfl⟩
 ·have d0:(((n:Nat):Int) != ((m:Nat):Int))=true:=by simp;omega
  have hr:decide (a=b)=false:=Ybt λe=>hnm (by rw[<- ha.len,<- hb.len,e]);rw[hr];clear ha hb hr;go_enter Tryz.func60,Tryz.ntmps60;go_wp2;go_ret;exact⟨rfl,0,rfl⟩
theorem Zj5 (w:World) (A:Option Addr) (n c:Nat) (l:Nm) (hl:BytesIn w A n l) (hn:n<=1099511627776):
  Calls Tryz.prog 46 #[.slice A n c] w λe w'=>∃ v,e=.returned v/\w'.ownsRow w.heap.size 5 1 v (putF l).length ((putF l).map byteV)/\Below w.heap.size w w':=by
 obtain⟨i0,hi,hz0,hz1,hz2⟩:=info_parts Za9;have HL:=Zh hl;have hln:l.length=n:=by have:=hl.2.1.len;simpa using this
 have HLN:=Zh hln;clear hl hln;obtain⟨s,hs⟩:=Ze (sumN l);have hs32:s<4294967296:=by rw[hs];exact Znt l
 obtain⟨x0,h0⟩:=Ze (UInt8.ofNat (s % 256));obtain⟨x1,h1⟩:=Ze (UInt8.ofNat (s/256 % 256));obtain⟨x2,h2⟩:=Ze (UInt8.ofNat (s/65536 % 256));obtain⟨x3,h3⟩:=Ze (UInt8.ofNat (s/16777216 % 256));have z0:(s:Int) % 256=(x0.toNat:Int):=by rw[h0,Zau (by omega)];omega
 have z1:(s:Int)/256 % 256=(x1.toNat:Int):=by rw[h1,Zau (by omega)];omega
 have z2:(s:Int)/65536 % 256=(x2.toNat:Int):=by rw[h2,Zau (by omega)];omega
 have z3:(s:Int)/16777216=(x3.toNat:Int):=by rw[h3,Zau (by omega)];omega
 have HP:Hid (putF l=putL n++([x0,x1,x2,x3]++l)):=Zh (by unfold putF le4;rw[HLN.out,<- hs,<- h0,<- h1,<- h2,<- h3]);have HS:=Zh hs;have hpl:=Zao n (by omega);clear hs h0 h1 h2 h3;go_enter Tryz.func46,Tryz.ntmps46;go_wp2_with fail;refine(Zl6 w A n c l HL.out).mono ?_;rintro e w1 ⟨rfl,hb⟩;rw[<- HS.out];have B1:=Zh hb;have L1:=Zh (HL.out.below hb);clear hb;go_wp2_with fail;refine(Zcc w1 n (by omega)).mono ?_;rintro e w2 ⟨v2,rfl,hO,hb⟩;obtain⟨A2,c2,hv2⟩:=Zac hO;subst hv2;have O2:=Zh hO;have L2:=Zh (L1.out.below hb);have B2:=Zh (Zaa B1.out hb B1.out.size);have hs12:=B1.out.size;have hs2:=hb.size;clear hb hO;have LA:=Zh (L2.out.below ((Ybm _ w2).alloc (Yar _) (.cells #[.int .u8 x0.toNat,.int .u8 x1.toNat,.int .u8 x2.toNat,.int .u8 x3.toNat] 5)));go_wp2_with (first
  | (at_builtin;refine Zae _ rfl (.tmp 11) (.tmp 23) 24 rfl w1.heap.size 5 i0 (.int .u8 0) 1 Tryz.underlying24 hi hz0 hz1 hz2 rfl _ _ _ rfl (Ze4 O2.out _) _ 4 4 _ rfl (Qed w2 [x0,x1,x2,x3] (by unfold maxLen;simp)) (Zbm [x0,x1,x2,x3]) (by unfold maxLen;omega) (by omega) (by simp;omega) ?_;intro v3 w3 hown hgrow _;obtain⟨A3,c3,hv3⟩:=Zac hown;subst hv3;have HO3:=Zh hown;have HS2:Hid (w2.heap.size<=w3.heap.size):=Zh (by have:=hgrow.size;simp at this;omega);have B3:Hid (Below w.heap.size w w3):=Zh ((B2.out.alloc B2.out.size _).grown hgrow (by have:=B2.out.size;simp;omega) (λg hg=>by have:=(O2.out.lt g hg).1;omega));have L3:Hid (BytesIn w3 A n l):=Zh (HL.out.below B3.out);clear hown hgrow)
  | (at_builtin;refine Zae _ rfl (.tmp 25) (.tmp 26) 24 rfl w1.heap.size 5 i0 (.int .u8 0) 1 Tryz.underlying24 hi hz0 hz1 hz2 rfl _ _ _ rfl HO3.out A n c (l.map byteV) rfl L3.out.2.1 (Zbm l) (by unfold maxLen;omega) (by omega) (Ybu hs2 HS2.out) ?_;intro v4 w4 hown hgrow _;have HO4:=Zh hown;have B4:Hid (Below w.heap.size w w4):=Zh (B3.out.grown hgrow B3.out.size (λg hg=>by have:=(HO3.out.lt g hg).1;omega));clear hown hgrow))
 go_ret;refine⟨_,rfl,?_,B4.out⟩;rw[HP.out];have h4:=Go.Joins.ownsRow_le HO4.out hs12;simp only[Yaq,Ybe,Yao]at h4 ⊢;rw[HLN.out];simpa[Nat.add_assoc]using h4
def Zng (w:World) (g:List UInt8×Nat×Int) (e:Ending) (w':World):Prop:=
 ∃ v,e=.returned (.tuple #[v,.int .i64 g.2.1,.int .i64 g.2.2])/\w'.ownsRow w.heap.size 5 1 v g.1.length (g.1.map byteV)/\Below w.heap.size w w'
theorem Zqd {w w':World} {g:List UInt8×Nat×Int} {e:Int} (h:g=([],0,e)) (hb:Below w.heap.size w w'):Zng w g (.returned (.tuple #[.slice none 0 0,.int .i64 0,.int .i64 e])) w':=by
 subst h;exact⟨_,rfl,⟨rfl,.inl ⟨rfl,rfl⟩⟩,hb⟩
theorem gfok {w w':World} {g:List UInt8×Nat×Int} {x:List UInt8} {m:Nat} {v:Value} (h:g=(x,m,0)) (hb:Below w.heap.size w w') (ho:w'.ownsRow w.heap.size 5 1 v x.length (x.map byteV)):Zng w g (.returned (.tuple #[v,.int .i64 m,.int .i64 0])) w':=by
 subst h;exact⟨v,rfl,ho,hb⟩
theorem or4 (a b c d:UInt8):bits .or .u32 (bits .or .u32 (bits .or .u32 (a.toNat:Int) ((b.toNat:Int)*256)) ((c.toNat:Int)*65536)) ((d.toNat:Int)*16777216)=((a.toNat+256*b.toNat+65536*c.toNat+16777216*d.toNat:Nat):Int):=by
 have h0:=a.toNat_lt;have h1:=b.toNat_lt;have h2:=c.toNat_lt;have h3:=d.toNat_lt;rw[show(b.toNat:Int)*256=((b.toNat*256:Nat):Int) by omega,show(c.toNat:Int)*65536=((c.toNat*65536:Nat):Int) by omega,show(d.toNat:Int)*16777216=((d.toNat*16777216:Nat):Int) by omega];have e1:a.toNat ||| b.toNat*256=a.toNat+b.toNat*256:=by
  rw[Nat.or_comm,nat_join 8 _ _ (by omega) (by omega),Nat.add_comm]
 rw[u32_or_nat _ _ (by omega) (by omega),e1];have e2:(a.toNat+b.toNat*256) ||| c.toNat*65536=a.toNat+b.toNat*256+c.toNat*65536:=by
  rw[Nat.or_comm,nat_join 16 _ _ (by omega) (by omega),Nat.add_comm]
 rw[u32_or_nat _ _ (by omega) (by omega),e2];have e3:(a.toNat+b.toNat*256+c.toNat*65536) ||| d.toNat*16777216=a.toNat+b.toNat*256+c.toNat*65536+d.toNat*16777216:=by
  rw[Nat.or_comm,nat_join 24 _ _ (by omega) (by omega),Nat.add_comm]
 rw[u32_or_nat _ _ (by omega) (by omega),e3];congr 1;omega
theorem Qe7 {l:List UInt8} {k:Nat} {a b c d:UInt8} (h0:l[k]?=some a) (h1:l[k+1]?=some b) (h2:l[k+2]?=some c) (h3:l[k+3]?=some d):un4 (l.drop k)=a.toNat+256*b.toNat+65536*c.toNat+16777216*d.toNat:=by
 unfold un4;simp only[Yaw,Ybv,Nat.add_zero,h0,h1,h2,h3,Ybw]
theorem Zxi (w:World) (A:Option Addr) (n c:Nat) (l:Nm) (hl:BytesIn w A n l) (hc:n<=c) (hn:n<=1099511627776):
  Calls Tryz.prog 108 #[.slice A n c] w (Zng w (getF l)):=by
 obtain⟨i0,hi,hz0,hz1,hz2⟩:=info_parts Za9;have HL:=Zh hl;have hln:l.length=n:=by have:=hl.2.1.len;simpa using this
 have HLN:=Zh hln;clear hl hln;obtain⟨N,k,e,hg⟩:∃ N k e,getL l=(N,k,e):=⟨_,_,_,rfl⟩
 obtain⟨G,hG⟩:=Ze (getF l);rw[<- hG];unfold getF at hG;rw[hg]at hG;simp only at hG;have HGG:=Zh hg;by_cases he:e=0
 ·subst he
  obtain⟨g1,g2,g3,g4,g5⟩:=Zby hg;rw[HLN.out]at g3;rw[Yaf (by simp)]at hG;clear hg g4;by_cases hbig:262144<N
  ·have hbz:(262144:Int)<(N:Int):=by omega
   rw[Yag hbig]at hG;have HG:=Zh hG;clear hG;go_enter Tryz.func108,Tryz.ntmps108;go_wp2_with fail;refine(Zik w A n c l HL.out HGG.out).mono ?_;rintro e2 w2 ⟨rfl,hw⟩;rw[hw];clear hw;go_wp2;go_ret3;exact Zqd HG.out (Ybm _ _)
  have hbz:¬ (262144:Int)<(N:Int):=by omega
  rw[Yaf hbig]at hG;obtain⟨E,hE⟩:=Ze (k+4+N);have hK4:IntKind.i64.wrap ((k:Int)+4)=(k:Int)+4:=Ybo _ (by omega);have hNz:IntKind.i64.wrap (N:Int)=(N:Int):=Ybo _ (by omega);have hEz:IntKind.i64.wrap ((k:Int)+4+(N:Int))=(E:Int):=by rw[Ybo _ (by omega)];omega
  rw[<- hE,HLN.out]at hG;by_cases hend:n<E
  ·have hendz:(n:Int)<(E:Int):=by omega
   rw[Yag hend]at hG;have HG:=Zh hG;clear hG hE;go_enter Tryz.func108,Tryz.ntmps108;go_wp2_with fail;refine(Zik w A n c l HL.out HGG.out).mono ?_;rintro e2 w2 ⟨rfl,hw⟩;rw[hw];clear hw;go_wp2;go_ret3;exact Zqd HG.out (Ybm _ _)
  have hendz:¬ (n:Int)<(E:Int):=by omega
  rw[Yaf hend]at hG;obtain⟨K4,hK4'⟩:=Ze (k+4);have e4:(k:Int)+4=(K4:Int):=by omega
  have e5:(K4:Int)+(N:Int)=(E:Int):=by omega
  obtain⟨p0,y0,hA,hy0,cy0⟩:=HL.out.at k (by omega);subst hA;obtain⟨_,y1,hA,hy1,cy1⟩:=HL.out.at (k+1) (by omega);cases hA
  obtain⟨_,y2,hA,hy2,cy2⟩:=HL.out.at (k+2) (by omega);cases hA
  obtain⟨_,y3,hA,hy3,cy3⟩:=HL.out.at (k+3) (by omega);cases hA
  have Y0:=Zh hy0;have Y1:=Zh hy1;have Y2:=Zh hy2;have Y3:=Zh hy3;have cz1:w.cell? ⟨p0.block,p0.off+(k+1),none⟩=some (.int .u8 y1.toNat):=by simpa[Addr.add]using cy1
  have cz2:w.cell? ⟨p0.block,p0.off+(k+2),none⟩=some (.int .u8 y2.toNat):=by simpa[Addr.add]using cy2
  have cz3:w.cell? ⟨p0.block,p0.off+(k+3),none⟩=some (.int .u8 y3.toNat):=by simpa[Addr.add]using cy3
  clear hy0 hy1 hy2 hy3 cy1 cy2 cy3;have b0:=y0.toNat_lt;have b1:=y1.toNat_lt;have b2:=y2.toNat_lt;have b3:=y3.toNat_lt;have hK1:(k:Int)+1<(n:Int):=by omega
  have hK2:(k:Int)+2<(n:Int):=by omega
  have hK3:(k:Int)+3<(n:Int):=by omega
  have hK0:(k:Int)<(n:Int):=by omega
  have w1:IntKind.i64.wrap ((k:Int)+1)=(k:Int)+1:=Ybo _ (by omega);have w2':IntKind.i64.wrap ((k:Int)+2)=(k:Int)+2:=Ybo _ (by omega);have w3':IntKind.i64.wrap ((k:Int)+3)=(k:Int)+3:=Ybo _ (by omega);have HG:=Zh hG;clear hG hE hK4';go_enter Tryz.func108,Tryz.ntmps108;go_wp2_with fail;refine(Zik w (some p0) n c l HL.out HGG.out).mono ?_;rintro e2 w2 ⟨rfl,hw⟩;rw[hw];clear hw;go_wp2_with fail;go_quiet (fail);obtain⟨U,hU⟩:=Ze (un4 (l.drop k));have hun:bits .or .u32 (bits .or .u32 (bits .or .u32 (y0.toNat:Int) ((y1.toNat:Int)*256)) ((y2.toNat:Int)*65536)) ((y3.toNat:Int)*16777216)=(U:Int):=by
   rw[hU,or4 y0 y1 y2 y3,Qe7 Y0.out Y1.out Y2.out Y3.out]
  rw[hun];rw[<- hU]at HG;clear hun hU cy0 cz1 cz2 cz3;obtain⟨x,hx⟩:=Ze ((l.drop (k+4)).take N);have s3:∀ w,(Instr.slice 24 (.slice (some p0) n c) (some (.int .i64 K4)) (some (.int .i64 E)) none).run Tryz.prog w=.ok (.slice (Zak (some p0) K4 c) N (c-K4)) w:=λw=>by
   have h:=Zgu w (some p0) n c K4 E (by omega) (by omega);rw[h,show E-K4=N by omega]
  have hsub:=HL.out.sub hc K4 E (by omega) (by omega);rw[show E=K4+N by omega,Zgk,Ybr,show K4=k+4 by omega,<- hx,show k+4=K4 by omega]at hsub;have HSUB:=Zh hsub;rw[<- hx]at HG;have HXN:Hid (x.length=N):=Zh (by rw[hx];simp;have:=HLN.out;omega);have hNl:N<=262144:=by omega
  clear hsub hx;obtain⟨W,hW⟩:=Ze (w.drewN nq);rw[<- hW];have hbW:Below w.heap.size w W:=by rw[hW];exact Zaf (Ybm _ _) _
  have BW:=Zh hbW;have HSW:=Zh ((HSUB.out.below hbW).below ((Ybm _ W).alloc (Yar _) (.cells #[] 5)));clear hW hbW;go_wp2_with (at_builtin;refine Zae _ rfl (.tmp 60) (.tmp 65) 24 rfl w.heap.size 5 i0 (.int .u8 0) 1 Tryz.underlying24 hi hz0 hz1 hz2 rfl _ 0 [] rfl (Ybx W #[] 0 BW.out.size (Ybd _) rfl) (Zak (some p0) K4 c) N _ _ rfl HSW.out.2.1 (Zbm x) (by unfold maxLen;omega) (by omega) (by have:=BW.out.size;simp;omega) ?_;intro v3 w3 hown hgrow _;obtain⟨A3,c3,hv3⟩:=Zac hown;subst hv3;rw[Ya4,Yad]at hown;have HO3:=Zh hown;have B3:Hid (Below w.heap.size w w3):=Zh ((BW.out.alloc BW.out.size _).grown hgrow (by have:=BW.out.size;simp;omega) (λg hg=>by cases hg;exact BW.out.size));clear hown hgrow);refine(Zl6 w3 A3 N c3 x (BytesIn.own HO3.out (by unfold maxLen;omega))).mono ?_;rintro e4' w4 ⟨rfl,hb⟩;have B4:=Zh (Zaa B3.out hb B3.out.size);have O4:=Zh (Zab HO3.out (w':=w4) λg hg=>hb.block g (HO3.out.lt g hg).2);clear hb;by_cases hsum:sumN x=U
  ·have d0:(((sumN x:Nat):Int) != (U:Int))=false:=by rw[hsum];simp
   have hG:=HG.out;rw[Yaf (by simpa using hsum)]at hG;have HG2:=Zh hG;clear hG;go_wp2;go_ret3;exact gfok HG2.out B4.out (by rw[HXN.out];exact O4.out)
  ·have d0:(((sumN x:Nat):Int) != (U:Int))=true:=by simpa using λe=>hsum (by omega)
   have hG:=HG.out;rw[Yag (by simpa using hsum)]at hG;have HG2:=Zh hG;clear hG hsum;go_wp2;go_ret3;exact Zqd HG2.out B4.out
 ·rw[Yag he]at hG
  have HG:=Zh hG;clear hG hg;have d1:(e != 0)=true:=by simpa using he
  go_enter Tryz.func108,Tryz.ntmps108;go_wp2_with fail;refine(Zik w A n c l HL.out HGG.out).mono ?_;rintro e2 w2 ⟨rfl,hw⟩;rw[hw];clear hw;go_wp2;go_ret3;exact Zqd HG.out (Ybm _ _)
def Qcw:Value->Nat
 | .slice _ n _=>n
 | _=>0
def Zxf (w:World) (g:List Nm×Int) (e:Ending) (w':World):Prop:=
 ∃ v,e=.returned (.tuple #[v,.int .i64 g.2])/\RowsAt w' w.heap.size v g.1/\Below w.heap.size w w'
theorem alok {w w':World} {g:List Nm×Int} {L:List Nm} {e:Int} {v:Value} (h:g=(L,e)) (hr:RowsAt w' w.heap.size v L) (hb:Below w.heap.size w w'):Zxf w g (.returned (.tuple #[v,.int .i64 e])) w':=by
 subst h;exact⟨v,rfl,hr,hb⟩
theorem Zmt (f:Nat) (acc:List Nm):Zc4 f [] acc=(acc,0):=by cases f<;>simp[Zc4]
theorem Zo7 (f at_:Nat) (acc:List Nm):Zfo f at_ [] acc=(acc,at_):=by cases f<;>simp[Zfo]
theorem Zws (w:World) (A:Option Addr) (n c:Nat) (l:Nm) (hl:BytesIn w A n l) (hc:n<=c) (hn:n<=1099511627776):
  Calls Tryz.prog 53 #[.slice A n c] w (Zxf w (allF l)):=by
 obtain⟨i0,hi,hz0,hz1,hz2⟩:=info_parts Zgf;have hln:l.length=n:=by have:=hl.2.1.len;simpa using this
 obtain⟨G,hG⟩:=Ze (allF l);rw[<- hG];have HG0:Hid (Zc4 n l []=G):=Zh (by rw[hG];unfold allF;rw[hln]);have HL:=Zh hl;have HLN:=Zh hln;clear hl hln hG;go_enter Tryz.func53,Tryz.ntmps53;go_wp2;go_loopw [0,4] (λs v wr=>∃ (B:Option Addr) (m cb f:Nat) (r:Nm) (acc:List Nm),s=.slice B m cb/\m<=cb/\BytesIn w B m r/\m<=f/\Zc4 f r acc=G/\acc.length+m<=n/\RowsAt wr w.heap.size v acc/\Below w.heap.size w wr) (λs _ _=>Qcw s);case atStart=>exact⟨A,n,c,n,l,[],rfl,hc,HL.out,Yar _,HG0.out,by simp,RowsAt.nil _ _,Ybm _ _⟩
 case round=>
  obtain⟨B,m,cb,f,r,acc,rfl,hmc,hr,hmf,hg,hacc,hrow,hB⟩:=hrel;have HR:=Zh hr;have HGG:=Zh hg;have HROW:=Zh hrow;have HB:=Zh hB;have hrl:r.length=m:=by have:=hr.2.1.len;simpa using this
  have HRL:=Zh hrl;clear hr hg hrow hB hrl HG0 HL HLN;rcases Yai m with h0|hpos
  ·subst h0
   have hz:¬ (0:Int)<((0:Nat):Int):=by omega
   have hfin:G=(acc,0):=by rw[<- HGG.out,Ya0 HRL.out,Zmt]
   have HF:=Zh hfin;clear hfin;go_wp2;go_ret2;exact alok HF.out HROW.out HB.out
  ·have hposz:(0:Int)<(m:Int):=by omega
   obtain⟨f',rfl⟩:∃ f',f=f'+1:=⟨f-1,by omega⟩
   have hstep:=HGG.out;simp only[Zc4]at hstep;rw[Yaf (by rw[HRL.out];omega)]at hstep;obtain⟨x,k,e,hgf⟩:∃ x k e,getF r=(x,k,e):=⟨_,_,_,rfl⟩
   rw[hgf]at hstep;simp only at hstep;have HST:=Zh hstep;have HGF:=Zh hgf;clear hstep hgf;go_wp2_with fail;refine(Zxi wr B m cb r (HR.out.below HB.out) hmc (by omega)).mono ?_;rintro e2 w2 ⟨v2,rfl,ho2,hb2⟩;rw[HGF.out]at ho2 ⊢;simp only at ho2;have HO2:=Zh ho2;have HB2:=Zh (Zaa HB.out hb2 HB.out.size);have HROW2:=Zh (HROW.out.below hb2);have hsz2:=hb2.size;clear ho2 hb2;by_cases he:e=0
   ·subst he
    have hst:=HST.out;rw[Yaf (by simp)]at hst;have HS:=Zh hst;have hinv:=Zsd HGF.out;obtain⟨q1,q2,q3,q4⟩:=hinv;rw[HRL.out]at q2;clear hst q3;obtain⟨A2,c2,hv2⟩:=Zac HO2.out;subst hv2;obtain⟨svs,ho,h2⟩:=HROW2.out;obtain⟨Av,cv,hv⟩:=Zac ho;subst hv;have hvl:∀ g,(Value.slice Av acc.length cv).ownBlock=some g->g<wr.heap.size:=by
     obtain⟨_,ho0,_⟩:=HROW.out;exact λg hg=>(ho0.lt g hg).2
    have HVL:=Zh hvl;have hsl:svs.length=acc.length:=by have:=ho.1;simpa using this
    have HSL:=Zh hsl;have HSO:=Zh ho;have HS2:=Zh h2;have s1:∀ w,(Instr.slice 24 (.slice B m cb) (some (.int .i64 k)) none none).run Tryz.prog w=.ok (.slice (Zak B k cb) (m-k) (cb-k)) w:=λw=>Zbf w B m cb k q2;have hone:∀ u∈[Value.slice A2 x.length c2],u.oneCell'=true:=by simp[Value.oneCell']
    have HONE:=Zh hone;clear ho h2 hvl hsl hone;go_wp2_with (at_builtin;refine Zae _ rfl (.tmp 20) (.tmp 22) 27 rfl w.heap.size 24 i0 (.slice none 0 0) 24 Tryz.underlying27 hi hz0 hz1 hz2 rfl _ acc.length svs rfl (HSO.out.alloc _) _ 1 1 _ rfl (Zlc w2 (.slice A2 x.length c2) rfl) HONE.out (by unfold maxLen;omega) (by omega) (by have:=HB2.out.size;simp;omega) ?_;intro v3 w3 hown hgrow hloc;have HO3:=Zh hown;have HG3:=Zh hgrow;have HLOC:Hid (v3.ownBlock=(Value.slice Av acc.length cv).ownBlock\/v3.ownBlock=some (w2.alloc (.cells #[.slice A2 x.length c2] 24)).heap.size):=Zh hloc;clear hown hgrow hloc);have hB3:=(HB2.out.alloc HB2.out.size (.cells #[.slice A2 x.length c2] 24)).grown HG3.out (by have:=HB2.out.size;simp;omega) (λg hg=>(HSO.out.lt g hg).1);have HB3:=Zh hB3;have hkeep:Below w2.heap.size w2 (w2.alloc (.cells #[.slice A2 x.length c2] 24)):=(Ybm _ w2).alloc (Yar _) _;have hnew:RowsAt w3 w.heap.size v3 (acc++[x]):=by
     refine RowsAt.push (w:=w2.alloc (.cells #[.slice A2 x.length c2] 24)) (v:=.slice Av acc.length cv) (svs:=svs) (λi sv y e1 e2=>?_) HSL.out (Holds1.below (Holds1.own HO2.out (by unfold maxLen;omega)) hkeep) ?_ HO3.out HG3.out ?_
     ·obtain⟨A4,c4,h3,h4,h5,h6⟩:=HS2.out i sv y e1 e2
      exact⟨A4,c4,h3,h4,h5.below hkeep,h6⟩
     ·intro A4 c4 ad e1 e2 _ e3
      injection e1 with e1;subst e1;have h3:=HVL.out _ e3;have h4:=(HO2.out.lt ad.block (by rw[e2];rfl)).1;omega
     ·rcases HLOC.out with h|h
      ·exact .inl h
      ·exact .inr ⟨_,h,Yar _⟩
    have HNEW:=Zh hnew;clear hB3 hkeep hnew;go_roundw;case rel=>
     refine⟨Zak B k cb,m-k,cb-k,f',r.drop k,acc++[x],rfl,by omega,?_,by omega,HS.out,by rw[Yaq,Yae];omega,HNEW.out,HB3.out⟩;have h:=HR.out.sub hmc k m q2 (Yar _);rw[Yav (by rw[HRL.out];exact Yar _)]at h;exact h
    case measure=>simp[Qcw];omega
   ·have hst:=HST.out
    rw[Yag he]at hst;have HS:=Zh hst;have d1:(e != 0)=true:=by simpa using he
    clear hst he;go_wp2;go_ret2;exact alok HS.out.symm (RowsAt.nil _ _) HB2.out
theorem Zh2 (w:World) (A:Option Addr) (n c:Nat) (l:Nm) (hl:BytesIn w A n l):
  Calls Tryz.prog 78 #[.slice A n c] w λe w'=>∃ B,e=.returned (.slice (some B) 4 4)/\w.heap.size<=B.block/\BytesIn w' (some B) 4 (le4 (sumN l))/\Below w.heap.size w w':=by
 have HL:=Zh hl;clear hl;obtain⟨s,hs⟩:=Ze (sumN l);have hs32:s<4294967296:=by rw[hs];exact Znt l
 obtain⟨x0,h0⟩:=Ze (UInt8.ofNat (s % 256));obtain⟨x1,h1⟩:=Ze (UInt8.ofNat (s/256 % 256));obtain⟨x2,h2⟩:=Ze (UInt8.ofNat (s/65536 % 256));obtain⟨x3,h3⟩:=Ze (UInt8.ofNat (s/16777216 % 256));have z0:(s:Int) % 256=(x0.toNat:Int):=by rw[h0,Zau (by omega)];omega
 have z1:(s:Int)/256 % 256=(x1.toNat:Int):=by rw[h1,Zau (by omega)];omega
 have z2:(s:Int)/65536 % 256=(x2.toNat:Int):=by rw[h2,Zau (by omega)];omega
 have z3:(s:Int)/16777216=(x3.toNat:Int):=by rw[h3,Zau (by omega)];omega
 have HP:Hid (le4 (sumN l)=[x0,x1,x2,x3]):=Zh (by unfold le4;rw[<- hs,<- h0,<- h1,<- h2,<- h3]);have HS:=Zh hs;clear hs h0 h1 h2 h3;go_enter Tryz.func78,Tryz.ntmps78;go_wp2_with fail;refine(Qc9 w A n c l HL.out).mono ?_;rintro e w1 ⟨rfl,hb⟩;rw[<- HS.out];have B1:=Zh hb;clear hb;go_wp2;go_ret;refine⟨_,rfl,B1.out.size,?_,B1.out.alloc B1.out.size _⟩;rw[HP.out];exact Zj2 w1 [x0,x1,x2,x3] (0,0) (by unfold maxLen;simp)
theorem Zno (w:World) (A:Option Addr) (n c:Nat) (l:Nm) (hl:BytesIn w A n l) (hn:n<=1099511627776):
  Calls Tryz.prog 33 #[.slice A n c] w λe w'=>∃ v,e=.returned v/\w'.ownsRow w.heap.size 5 1 v (putF l).length ((putF l).map byteV)/\Below w.heap.size w w':=by
 obtain⟨i0,hi,hz0,hz1,hz2⟩:=info_parts Za9;have HL:=Zh hl;have hln:l.length=n:=by have:=hl.2.1.len;simpa using this
 have HLN:=Zh hln;clear hl hln;have hwn:IntKind.u64.wrap (n:Int)=(n:Int):=by rw[Yby];omega
 have hpl:=Zao n (by omega);have h4:=Zyu (sumN l);obtain⟨P,hP⟩:=Ze (putL n);obtain⟨F,hF⟩:=Ze (le4 (sumN l));have HP:Hid (putF l=P++(F++l)):=Zh (by rw[hP,hF,putF,HLN.out]);have HF:=Zh hF;have HPE:=Zh hP;rw[<- hF]at h4;rw[<- hP]at hpl;have H4:=Zh h4;clear hP hF h4;go_enter Tryz.func33,Tryz.ntmps33;go_wp2_with fail;refine(Zff w n (by omega)).mono ?_;rintro e w2 ⟨v2,rfl,hO,hb⟩;rw[<- HPE.out]at hO;obtain⟨A2,c2,hv2⟩:=Zac hO;subst hv2;have O2:=Zh hO;have L2:=Zh (HL.out.below hb);have B2:=Zh hb;clear hb hO;go_wp2_with fail;refine(Zh2 w2 A n c l L2.out).mono ?_;rintro e w3 ⟨S,rfl,hS,hSB,hb⟩;rw[<- HF.out]at hSB;have O3:=Zh (Zab O2.out λg hg=>hb.block g (O2.out.lt g hg).2);have L3:=Zh (L2.out.below hb);have B3:=Zh (Zaa B2.out hb B2.out.size);have SB:=Zh hSB;clear hS hSB hb;go_wp2_with (first
  | (at_builtin;refine Zae _ rfl (.tmp 8) (.tmp 10) 24 rfl w.heap.size 5 i0 (.int .u8 0) 1 Tryz.underlying24 hi hz0 hz1 hz2 rfl _ _ _ rfl O3.out _ 4 4 _ rfl SB.out.2.1 (Zbm F) (by unfold maxLen;omega) (by omega) B3.out.size ?_;intro v4 w4 hown hgrow _;obtain⟨A4,c4,hv4⟩:=Zac hown;subst hv4;have HO4:=Zh hown;have B4:Hid (Below w.heap.size w w4):=Zh (B3.out.grown hgrow B3.out.size (λg hg=>(O3.out.lt g hg).1));have L4:Hid (BytesIn w4 A n l):=Zh (HL.out.below B4.out);clear hown hgrow)
  | (at_builtin;refine Zae _ rfl (.tmp 12) (.tmp 13) 24 rfl w.heap.size 5 i0 (.int .u8 0) 1 Tryz.underlying24 hi hz0 hz1 hz2 rfl _ _ _ rfl HO4.out A n c (l.map byteV) rfl L4.out.2.1 (Zbm l) (by unfold maxLen;omega) (by omega) B4.out.size ?_;intro v5 w5 hown hgrow _;have HO5:=Zh hown;have B5:Hid (Below w.heap.size w w5):=Zh (B4.out.grown hgrow B4.out.size (λg hg=>(HO4.out.lt g hg).1));clear hown hgrow))
 go_ret;refine⟨_,rfl,?_,B5.out⟩;rw[HP.out];have h5:=HO5.out;simp only[Yaq,Ybe,Yao,H4.out]at h5 ⊢;rw[HLN.out];simpa[Nat.add_assoc]using h5
end
end Go.Proofs.YthcjikpabpgpfaaGreat
