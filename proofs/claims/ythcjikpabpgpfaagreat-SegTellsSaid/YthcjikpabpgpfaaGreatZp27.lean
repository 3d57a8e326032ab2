import Derived.Test.YthcjikpabpgpfaaGreatZp22
import Derived.Laws.ResultCell
set_option linter.unusedSimpArgs false
set_option maxHeartbeats 16000000
set_option maxRecDepth 100000
namespace Go.Proofs.YthcjikpabpgpfaaGreat
section
theorem Zww (T:List (Int×List Pst)) (x:Int×List Pst):Zfi (T++[x])=x.1:=by
 unfold Zfi;rw[Yaf (by simp),Yaq,Yae,Ybk,Yaw,Ybc (Yar _),Ybq];rfl
theorem Zpu {l:List Nm} {d:Nat}:∀ {i:Nat} {T:List (Int×List Pst)},Zbn l d i=some T->(∀ x∈T,(0<=x.1/\x.1<=511)/\x.1<=Zfi T/\ValidP x.2/\0<x.2.length)/\(T.map Prod.fst).Pairwise (·<·)
 | 0,T,h=>by
  simp only[Zbn,Option.some.injEq]at h;subst h;simp
 | i+1,T,h=>by
  rw[Zbn]at h;split at h
  ·cases h
  ·rename_i T0 h0
   obtain⟨h1,h2⟩:=Zpu h0;split at h
   ·cases h
   ·rename_i hb
    simp only[Option.some.injEq]at h;subst h;obtain⟨f,hf⟩:=Ze (l.getD (1+d+i) []);rw[<- hf]at hb ⊢;have hlast:Zfi T0<Zi9 f:=by
     rcases Int.lt_or_le (Zfi T0) (Zi9 f)with h3|h3
     ·exact h3
     ·exact absurd (show Zec f T0 d from .inr (.inr (.inl h3))) hb
    have hok:(Zfs f).2=0:=Classical.byContradiction λh3=>hb (.inr (.inl h3));have hpos:0<(Zfs f).1.length:=Nat.pos_of_ne_zero λh3=>hb (.inr (.inr (.inr (.inl h3))));have hval:ValidP (Zfs f).1:=(Zex Zm3).1 (Zh9 (b:=(Zlh f).1) hok).1;have htok:=Zdo ⟨f,0,0⟩ (m:=511) (by omega);refine⟨λx hx=>?_,?_⟩
    ·rw[Zww]
     rcases Ybj.1 hx with hx|hx
     ·obtain⟨q1,q2,q3,q4⟩:=h1 x hx
      exact⟨q1,by simp only;omega,q3,q4⟩
     ·rw[Ybi.1 hx]
      exact⟨htok,Int.le_refl _,hval,hpos⟩
    ·rw[Ybe,Ycl]
     refine⟨h2,by simp,λa ha b hb2=>?_⟩;obtain⟨x,hx,rfl⟩:=Yaz.1 ha;simp at hb2;subst hb2;have:=(h1 x hx).2.1
     omega
theorem Zni {b:Nm} {D:List (Nm×Nm)} {T:List (Int×List Pst)} (h:Zh4 b=some (D,T)):Zvd D T:=by
 unfold Zh4 at h;split at h
 ·cases h
 ·split at h
  ·cases h
  ·split at h
   ·cases h
   ·rename_i D0 hD
    split at h
    ·rename_i hR
     obtain⟨T0,hT,e⟩:=Option.map_eq_some_iff.1 h;simp only[Prod.mk.injEq]at e;obtain⟨rfl,rfl⟩:=e;obtain⟨h1,h2⟩:=Zpu hT;exact⟨hR,h2,λx hx=>(h1 x hx).1,λx hx=>(h1 x hx).2.2⟩
    ·cases h
end
section
open Go.RowKit Go.Maps Go.WideMaps
def ofN (l:List (Int×Int)):Nat->Voc
 | 0=>⟨ones,[]⟩
 | k+1=>if (Zbc (l.take (k+1))).2=0 then (Zbc (l.take (k+1))).1 else ofN l k
def ofV (l:List (Int×Int)):Voc:=ofN l (min l.length 599)
theorem Zhc {l:List (Int×Int)} {k:Nat} (h:(Zbc (l.take k)).2≠0):∀ m,k<=m->(Zbc (l.take m)).2≠0
 | 0,hm=>by
  have:k=0:=by omega
  subst this;exact h
 | m+1,hm=>by
  rcases Yab m k with h1|h1
  ·have:k=m+1:=by omega
   subst this;exact h
  ·have ih:=Zhc h m h1
   rw[Ya5];cases l[m]? with
   | none=>simpa using ih
   | some p=>
    show(Zbc (l.take m++[p])).2≠0;unfold Zbc at ih ⊢;rw[Zha p _ _ ih];exact ih
theorem Zsv {l:List (Int×Int)} {k:Nat} (h:(Zbc (l.take (k+1))).2≠0):∀ m,k<=m->ofN l m=ofN l k
 | 0,hm=>by
  have:k=0:=by omega
  subst this;rfl
 | m+1,hm=>by
  rcases Yab m k with h1|h1
  ·have:k=m+1:=by omega
   subst this;rfl
  ·have:=Zhc h (m+1) (by omega)
   rw[ofN,Yaf this,Zsv h m h1]
theorem Zyz (l:List (Int×Int)):∀ k,VOk (ofN l k)
 | 0=>Zqn
 | k+1=>by
  rw[ofN];split
  ·exact Ztt _ _ Zqn (by assumption)
  ·exact Zyz l k
theorem Qcj (l:List (Int×Int)):VOk (ofV l):=Zyz l _
theorem Qad {l:List (Int×Int)} {k:Nat} (h:(Zbc (l.take k)).2=0):ofN l k=(Zbc (l.take k)).1:=by
 cases k with
 | zero=>simp[ofN,Zbc,Zet]
 | succ k=>rw[ofN,Yag h]
theorem PairsIn.upto {w:World} {A:Option Addr} {n:Nat} {l:List (Int×Int)} (h:PairsIn w A n l) (q:Nat) (hq:q<=n):PairsIn w A q (l.take q) where
 len:=by rw[Ycc,h.len];omega
 fit:=Ybu hq h.fit
 vals:=λp hp=>h.vals p (Yce hp)
 nil:=λe=>by have:=h.nil e;omega
 cells:=λad e i p hp=>by
  rw[Yci]at hp;split at hp
  ·exact h.cells ad e i p hp
  ·cases hp
theorem PairsIn.none (w:World):PairsIn w none 0 []:=⟨rfl,Ybd _,by simp,λ_=>rfl,λ_ e=>by cases e⟩
def OfOut (w:World) (V:Voc) (e:Ending) (w':World):Prop:=
 ∃ A B n m ca cb,e=.returned (vocV A B n m ca cb)/\VocSee w' A B n m ca cb V/\Below w.heap.size w w'
structure OfAt (w0 w:World) (l:List (Int×Int)) (p2 p3 k:Nat) (F:Nat->Prop) (b:Nat) (tv mv:Value) (svs:List Value):Prop where
 rv:IsRV w F b (ofN l (k-1)) tv mv svs
 far:∀ i,F i->i≠p2/\i≠p3
 cur:Blk w p3 30 #[tv,mv]
 res:Blk w p2 30 #[.slice none 0 0,.slice none 0 0]
 below:Below w0.heap.size w0 w
 good:∀ j,j<k->(Zbc (l.take j)).2=0
 le2:w0.heap.size<=p2
 le3:p2<p3
theorem Zg2 (A:Option Addr) (n c:Nat):∀ x,(Value.slice A n c)≠byteV x:=by intro x h;cases h
theorem Zmc {w:World} {g:Nat} {a b:Value} (h:Blk w g 30 #[a,b]) (h1:∀ c,a≠byteV c) (h2:∀ c,b≠byteV c):∀ (A:Option Addr) (x:Nm),BytesIn w A x.length x->∀ ad,A=some ad->0<x.length->ad.block≠g:=
 Zqa h λi c e=>by
  rcases i with _|_|i
  ·simp at e;exact h1 c e
  ·simp at e;exact h2 c e
  ·simp at e
theorem OfAt.then {w0 w w':World} {l:List (Int×Int)} {p2 p3 k:Nat} {F:Nat->Prop} {b:Nat} {tv mv:Value} {svs:List Value} (h:OfAt w0 w l p2 p3 k F b tv mv svs) (hb:Below w.heap.size w w'):OfAt w0 w' l p2 p3 k F b tv mv svs where
 rv:=h.rv.kept hb
 far:=h.far
 cur:=h.cur.below hb h.cur.lt
 res:=h.res.below hb h.res.lt
 below:=Zaa h.below hb h.below.size
 good:=h.good
 le2:=h.le2
 le3:=h.le3
theorem OfAt.next {w0 w w5 w6:World} {l:List (Int×Int)} {p2 p3 k:Nat} {F F':Nat->Prop} {b b':Nat} {A B:Option Addr} {n m ca cb:Nat} {tv mv:Value} {svs svs':List Value} (h:OfAt w0 w l p2 p3 k F b tv mv svs) (h5:Below w.heap.size w w5)
  (hI:IsRV w5 F' b' (Zbc (l.take k)).1 (.slice A n ca) (.slice B m cb) svs') (hF:∀ i,F' i->w.heap.size<=i) (he:(Zbc (l.take k)).2=0) (h6:Below w5.heap.size w5 w6):
  OfAt w0 ((w6.setCell ⟨p3,0,none⟩ (.slice A n ca)).setCell ⟨p3,1,none⟩ (.slice B m cb)) l p2 p3 (k+1) F' b' (.slice A n ca) (.slice B m cb) svs':=by
 have h56:=Zaa h5 h6 h5.size;have hc:=h.cur.below h56 h.cur.lt;have hr:=h.res.below h56 h.res.lt;have hk:Kept (λi=>i=p3) w6 ((w6.setCell ⟨p3,0,none⟩ (.slice A n ca)).setCell ⟨p3,1,none⟩ (.slice B m cb)):=((Kept.refl (λi=>i=p3) w6).setCell (p:=⟨p3,0,none⟩) (.inl rfl) _).setCell (p:=⟨p3,1,none⟩) (.inl rfl) _;have hnb:∀ (A:Option Addr) (x:Nm),BytesIn w6 A x.length x->∀ ad,A=some ad->0<x.length->ad.block≠p3:=by
  obtain⟨a1,c1,e1⟩:=Zac h.rv.trow;obtain⟨a2,c2,e2⟩:=Zac h.rv.mrow;subst e1;subst e2;exact Zmc hc (Zg2 _ _ _) (Zg2 _ _ _)
 have l3:=h.cur.lt;have l2:=h.le3;exact {
  rv:=by
   rw[Ybk,Qad he];exact(hI.kept h6).far hk (λe=>by have:=hF _ e;omega) hnb
  far:=λi hi=>by have:=hF i hi;constructor<;>omega
  cur:=by
   have:=(hc.set_ 0 (.slice A n ca)).set_ 1 (.slice B m cb)
   simpa[Blk]using this
  res:=(hr.far (p:=⟨p3,0,none⟩) (by show p2≠p3;omega) _).far (p:=⟨p3,1,none⟩) (by show p2≠p3;omega) _
  below:=((Zaa h.below h56 h.below.size).setCell (p:=⟨p3,0,none⟩) (by have:=h.le2;show _<=p3;omega) _).setCell (p:=⟨p3,1,none⟩) (by have:=h.le2;show _<=p3;omega) _
  good:=λj hj=>by
   rcases Yab j k with h1|h1
   ·exact h.good j h1
   ·have:j=k:=by omega
    subst this;exact he
  le2:=h.le2
  le3:=h.le3 }
theorem Ze5 {w:World} {g:Nat} {t:TypeId} {x y:Value} (h:Blk w g t #[x,y]):w.cell? ⟨g,0,none⟩=some x/\w.cell? ⟨g,1,none⟩=some y:=by
 have h0:=h.cell 0;have h1:=h.cell 1;exact⟨h0,h1⟩
theorem OfAt.out {w0 w:World} {l:List (Int×Int)} {p2 p3 k j:Nat} {F:Nat->Prop} {b:Nat} {A B:Option Addr} {n m ca cb:Nat} {svs:List Value} (h:OfAt w0 w l p2 p3 k F b (.slice A n ca) (.slice B m cb) svs) (hj:ofN l (k-1)=ofN l j):
  OfOut w0 (ofN l j) (.returned (vocV A B n m ca cb)) ((w.setCell ⟨p2,0,none⟩ (.slice A n ca)).setCell ⟨p2,1,none⟩ (.slice B m cb)):=by
 have hk:Kept (λi=>i=p2) w ((w.setCell ⟨p2,0,none⟩ (.slice A n ca)).setCell ⟨p2,1,none⟩ (.slice B m cb)):=((Kept.refl (λi=>i=p2) w).setCell (p:=⟨p2,0,none⟩) (.inl rfl) _).setCell (p:=⟨p2,1,none⟩) (.inl rfl) _;have h2:=h.rv.far hk (λe=>(h.far _ e).1 rfl) (Zmc h.res (Zg2 _ _ _) (Zg2 _ _ _));rw[hj]at h2;have hO:=Zyz l j;obtain⟨A1,B1,c1,c2,e1,e2,hs⟩:=h2.see (by have:=hO.tl;omega) (by have:=hO.ml;omega);cases e1
 cases e2
 exact⟨A,B,_,_,ca,cb,rfl,hs,(h.below.setCell h.le2 _).setCell h.le2 _⟩
theorem OfOut.then {w w1 w2:World} {V:Voc} {e:Ending} (h:OfOut w V e w1) (hb:Below w1.heap.size w1 w2):OfOut w V e w2:=by
 obtain⟨A,B,n,m,ca,cb,h1,h2,h3⟩:=h;exact⟨A,B,n,m,ca,cb,h1,h2.below hb,Zaa h3 hb h3.size⟩
theorem Zbp {P:Program} {fn:Func} {p:Tmp} {ty:TypeId} (h:fn.results=#[.cell p ty]) (tmps:Array Value) (w:World) (g:Nat) (t:TypeId) (cs:Array Value) (fr:Nat×Nat) (d:TypeDesc)
  (hp:tmps.getD p undef=.pointer (some ⟨g,0,none⟩)) (hg:w.heap[g]?=some (.cells cs t fr))
  (hu:P.underlying ty=some d) (hd:(match d with| .struct _| .array _ _=>true|_=>false)=true) (hi:(P.info? ty).map (·.size)=some cs.size):
  (results fn tmps).run P w=.ok (.agg cs) w:=by
 have hp':tmps[p]?.getD undef=.pointer (some ⟨g,0,none⟩):=by simpa using hp
 simp only[results,h];simp[Sem.run_bind,Result.andThen,hp',asAddr,run_loadVar_row w g t ty cs fr d hg hu hd hi]
theorem Qbm (w:World) (A:Option Addr) (n c:Nat) (l:List (Int×Int)) (hl:PairsIn w A n l) (hn:n<=1048576) (hc:n<=c):
  Calls Tryz.prog 11 #[.slice A n c] w (OfOut w (ofV l)):=by
 have HL:=Zh hl;have hll:=hl.len;have HLL:=Zh hll;clear hl hll;obtain⟨V,hV⟩:=Ze (ofV l);rw[<- hV];have HVV:=Zh hV;clear hV;obtain⟨W1,hW1⟩:=Ze (w.alloc (.cells #[.slice none 0 0,.slice none 0 0] 30));have hv0:Blk W1 w.heap.size 30 #[.slice none 0 0,.slice none 0 0]:=by rw[hW1];exact Blk.new _ _ _
 have hb1:Below w.heap.size w W1:=by rw[hW1];exact(Ybm _ w).alloc (Yar _) _
 have HW1:=Zh hW1;have HV0:=Zh hv0;have HB1:=Zh hb1;clear hW1 hv0 hb1;go_enter Tryz.func11,Tryz.ntmps11;go_wp2_with fail;rw[<- HW1.out];refine((Zli W1 none 0 0 [] (PairsIn.none _) (by omega))).mono ?_;rintro e w2 ⟨tv,mv,svs,F,b,rfl,hb2,h0,-⟩;obtain⟨hI,hF⟩:=h0 rfl;obtain⟨TA,tca,rfl⟩:=Zac hI.trow;obtain⟨MB,mcb,rfl⟩:=Zac hI.mrow;have h256:(Zbc []).1.tok.length=256:=Zig;have h00:(Zbc []).1.mer.length=0:=rfl;have hR:OfAt w (w2.alloc (.cells #[.slice TA (Zbc []).1.tok.length tca,.slice MB (Zbc []).1.mer.length mcb] 30)) l w.heap.size w2.heap.size 0 F b (.slice TA (Zbc []).1.tok.length tca) (.slice MB (Zbc []).1.mer.length mcb) svs:={
  rv:=hI.kept ((Ybm _ w2).alloc (Yar _) _)
  far:=λi hi=>by have h1:=hF i hi;have h2:=hI.lt i hi;have h3:=HV0.out.lt;constructor<;>omega
  cur:=Blk.new _ _ _
  res:=(HV0.out.below hb2 HV0.out.lt).alloc _
  below:=(Zaa HB1.out hb2 HB1.out.size).alloc (by have:=HB1.out.size;have:=hb2.size;omega) _
  good:=λj hj=>by omega
  le2:=Yar _
  le3:=Ya7 HV0.out.lt hb2.size }
 have HR:=Zh hR;clear hI hF h0 hb2 hR;go_wp2_with fail;go_loopw [5] (λi wr=>∃ (k:Nat) (A B:Option Addr) (n' m' ca cb:Nat) (F:Nat->Prop) (b:Nat) (svs:List Value),k<=n+1/\k<=600/\i=.int .i64 (k:Nat)/\OfAt w wr l w.heap.size w2.heap.size k F b (.slice A n' ca) (.slice B m' cb) svs) (λi _=>n+1-(intOf i).toNat);case atStart=>exact⟨0,_,_,_,_,_,_,_,_,_,by omega,by omega,rfl,HR.out⟩
 case round=>
  obtain⟨k,A,B,n',m',ca,cb,F,b,svs,hk1,hk2,rfl,hR⟩:=hrel;have HR:=Zh hR;obtain⟨m0,m1⟩:=Ze5 hR.cur;clear hR;by_cases hin:k<=n/\k<600
  ·obtain⟨h1,h2⟩:=hin
   have d1:(k:Int)<=(n:Int):=by omega
   have d2:(k:Int)<600:=by omega
   have d3:(0:Int)<=(k:Int):=by omega
   have d4:(k:Int)<=(c:Int):=by omega
   have d5:k<=c:=by omega
   clear m0 m1;go_wp2_with fail;refine(Zli wr _ k c (l.take k) ((HL.out.below HR.out.below).upto k h1) (by omega)).mono ?_;rintro e w5 ⟨tv,mv,svs',F',b',rfl,hb5,h0,hz⟩;by_cases he:(Zbc (l.take k)).2=0
   ·obtain⟨hI,hF⟩:=h0 he
    obtain⟨TA,tca,rfl⟩:=Zac hI.trow;obtain⟨MB,mcb,rfl⟩:=Zac hI.mrow;rw[he];have HN:=Zh (HR.out.next hb5 hI hF he (Ybm _ w5));have HR5:=Zh (HR.out.then hb5);clear h0 hz hb5 hI hF he;obtain⟨m0,m1⟩:=Ze5 HR5.out.cur;have z0:=HR5.out.cur.frozen 0;have z1:=HR5.out.cur.frozen 1;have q3:=HR5.out.cur.lt;go_wp2_with fail;go_roundw;case rel=>exact⟨k+1,_,_,_,_,_,_,_,_,_,by omega,by omega,by go_num,HN.out.then ((Ybm _ _).alloc (Yar _) _)⟩
    case measure=>simp[intOf];omega
   ·obtain⟨rfl,rfl⟩:=hz he
    have HR5:=Zh (HR.out.then hb5);have HE:=Zh he;obtain⟨E,hE⟩:=Ze ((Zbc (l.take k)).2);rw[<- hE]at he ⊢;have d6:(E != 0)=true:=by simpa using he
    clear h0 hz hb5 he;obtain⟨m0,m1⟩:=Ze5 HR5.out.cur;obtain⟨r0,r1⟩:=Ze5 HR5.out.res;have z0:=HR5.out.res.frozen 0;have z1:=HR5.out.res.frozen 1;have q2:=HR5.out.res.lt;have q3:=HR5.out.cur.lt;go_wp2_with fail;refine bodyPost_ret (Zbp rfl _ _ w.heap.size 30 #[.slice A n' ca,.slice B m' cb] (0,0) _ rfl ?_ Tryz.underlying30 rfl Zbx) rfl ?_
    ·have:=((HR5.out.res.set_ 0 (.slice A n' ca)).set_ 1 (.slice B m' cb)).alloc (.cells #[.slice none 0 0,.slice none 0 0] 30)
     simpa[Blk]using this
    ·have hk0:k≠0:=λe=>HE.out (by rw[e];rfl)
     have hst:ofV l=ofN l (k-1):=by
      unfold ofV;rw[HLL.out];exact Zsv (by rw[Nat.sub_add_cancel (by omega)];exact HE.out) _ (by omega)
     rw[HVV.out,hst];exact(HR5.out.out rfl).then ((Ybm _ _).alloc (Yar _) _)
  ·have hgo:¬ ((k:Int)<=(n:Int))\/((k:Int)<=(n:Int)/\¬ ((k:Int)<600)):=by omega
   have HJ:Hid (V=ofN l (k-1)):=Zh (by
    rw[HVV.out];unfold ofV;rw[HLL.out];congr 1;omega)
   obtain⟨r0,r1⟩:=Ze5 HR.out.res;have z0:=HR.out.res.frozen 0;have z1:=HR.out.res.frozen 1;rcases hgo with d1|⟨d1,d2⟩
   ·go_wp2_with fail
    refine bodyPost_ret (Zbp rfl _ _ w.heap.size 30 #[.slice A n' ca,.slice B m' cb] (0,0) _ rfl ?_ Tryz.underlying30 rfl Zbx) rfl ?_
    ·have:=(HR.out.res.set_ 0 (.slice A n' ca)).set_ 1 (.slice B m' cb)
     simpa[Blk]using this
    ·rw[HJ.out]
     exact HR.out.out rfl
   ·go_wp2_with fail
    refine bodyPost_ret (Zbp rfl _ _ w.heap.size 30 #[.slice A n' ca,.slice B m' cb] (0,0) _ rfl ?_ Tryz.underlying30 rfl Zbx) rfl ?_
    ·have:=(HR.out.res.set_ 0 (.slice A n' ca)).set_ 1 (.slice B m' cb)
     simpa[Blk]using this
    ·rw[HJ.out]
     exact HR.out.out rfl
end
end Go.Proofs.YthcjikpabpgpfaaGreat
