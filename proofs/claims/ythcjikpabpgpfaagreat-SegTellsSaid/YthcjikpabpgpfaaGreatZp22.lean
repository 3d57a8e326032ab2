import Derived.Test.YthcjikpabpgpfaaGreatZp19
import Derived.StillTailTactics
import Derived.Sort.Grow
import Derived.Shelf.SlSortCmp.Insertion
import Derived.Test.YthcjikpabpgpfaaGreatZp13
import Derived.Test.YthcjikpabpgpfaaGreatZp4
import Derived.Shelf.SlSorted.Search
import Derived.Shelf.SlSortCmp.QuietGrown
import Derived.Laws.IdiomCopy
import Derived.Lib.SliceRun
import Derived.Deep.RegionLaw
import Derived.Shelf.SlSortCmp.NoneTotal
import Derived.Lib.ConvBytes
import Derived.Deep.QuietTactic
import Derived.BigQuiet
import Derived.Lib.MinMax
import Derived.Deep.DeepCutAuto
import Derived.Deep.RegionHeld3
import Derived.Lib.AppendStr
set_option linter.unusedSimpArgs false
set_option maxHeartbeats 16000000
set_option maxRecDepth 100000
namespace Go.Proofs.YthcjikpabpgpfaaGreat
section
theorem Zxw {V:Voc} (hV:VOk V) {x:Int} (h:TokI V x):0<(tokI V.tok x).length:=by
 unfold tokI;rw[Yag (show 0<=x/\x<(V.tok.length:Int)from h)];have h2:x.toNat<V.tok.length:=by have:=h.1;have:=h.2;omega
 rw[Yaw,Yax h2];have:=(hV.short _ (Yay h2)).1
 exact this
theorem Zsr (L:List Nm):∀ l:List Int,(∀ x∈l,0<(tokI L x).length)->l.length<=(l.flatMap (tokI L)).length
 | [],_=>by simp
 | a :: r,h=>by
  have h1:=Zsr L r λx hx=>h x (Yap _ hx);have h2:=h a (Yam ..);rw[Yan,Yaq,Yah];omega
theorem Qcg {V:Voc} (hV:VOk V) (s:Nm):(encL V.mer s).length<=s.length:=by
 have h1:=Zsr V.tok (encL V.mer s) λx hx=>Zxw hV (hV.enc_in s x hx);rw[hV.enc_text]at h1;exact h1
theorem Zud {V:Voc} (hV:VOk V) {s:Nm} (hs:s.length<=4096):Zch V.tok (encR V.mer s)=Zca V.tok (encL V.mer s) (encL V.mer s).length:=by
 rw[Znq hs];unfold Zch;rw[Yag (hV.enc_walk hs).1]
theorem Zox (L:List Nm) (l:List Int) {n j:Nat} (h:j<n):(Zca L l n).getD j 0=((Zbg L l j).length:Int):=by
 unfold Zca;rw[Yaw,Ych,Ycd h];rfl
theorem Qel {V:Voc} (hV:VOk V) {i:Nat} (hi:i<4096) {p:Nm×Nm} (hp:Zf8 p):DocOk (docM V i p):=by
 have h3:=hp.2.2;have hT:(docM V i p).T=encL V.mer p.2:=Znq h3;have hS:(docM V i p).S=Zca V.tok (encL V.mer p.2) (encL V.mer p.2).length:=Zud hV h3;have hle:=Qcg hV p.2;refine⟨by rw[hT];omega,by rw[hS,hT,Zew],⟨by show(0:Int)<=(i:Int);omega,by show(i:Int)<=4294967296;omega⟩,?_,?_⟩
 ·rw[badTo_iff]
  intro j hj;rw[hT]at hj;rw[badAt_iff,hT,hS,Zox _ _ hj];refine⟨?_,by omega,λh0=>?_⟩
  ·rw[Yaw,Yax hj]
   exact(hV.enc_in p.2 _ (Yay hj)).1
  ·rw[Zox _ _ (by omega)]
   have h4:Zbg V.tok (encL V.mer p.2) j=Zbg V.tok (encL V.mer p.2) (j-1)++tokI V.tok ((encL V.mer p.2).getD (j-1) 0):=by
    conv=>lhs;rw[show j=(j-1)+1 by omega]
    rfl
   rw[h4,Yaq];have h5:0<(tokI V.tok ((encL V.mer p.2).getD (j-1) 0)).length:=by
    refine Zxw hV ?_;rw[Yaw,Yax (by omega)];exact hV.enc_in p.2 _ (Yay _)
   omega
 ·obtain⟨h1,h2⟩:=Zih hV i p
  exact⟨λy hy=>by have:=h1 y hy;omega,λy hy=>by have:=h2 y hy;omega⟩
theorem Zwg {L:List MDoc} {x:MDoc} (h1:L.length<4096) (h2:DocOk x) (h3:0<L.length->(mD L (L.length-1)).doc<x.doc):mErr L x=0:=by
 unfold mErr;have:=h2.few
 have:=h2.same
 have:=h2.doc
 rw[Yaf (by omega),Yaf,Yaf (by rw[h2.good];simp)];rintro(h|h|⟨h,h'⟩|h)
 ·omega
 ·omega
 ·have:=h3 h;omega
 ·omega
theorem Zsg {V:Voc} {l:List (Nm×Nm)} {i:Nat} {p:Nm×Nm} (h:l[i]?=some p):(Zcd V l)[i]?=some (docM V i p):=by
 unfold Zcd;rw[List.getElem?_mapIdx,h];rfl
theorem Zh5 (V:Voc) (l:List (Nm×Nm)):(Zcd V l).length=l.length:=by unfold Zcd;rw[List.length_mapIdx]
theorem Zk3 {V:Voc} (hV:VOk V) {l:List (Nm×Nm)} (hl:Zb1 l):∀ k,k<=l.length->segM V l k=(Zcd V l).take k
 | 0,_=>by simp[segM,Zof]
 | k+1,hk=>by
  have h64:=hl.1;have hp:l[k]?=some (l[k]'(by omega)):=Yax _;have ih:=Zk3 hV hl k (by omega);have hok:=hl.2.1 _ (Yay (h:=(by omega:k<l.length)));have hlen:(segM V l k).length=k:=by rw[ih,Ycc,Zh5];omega
  rw[Zkg hp];unfold mAdd;rw[Yag (Zwg (by omega) (Qel hV (by omega) hok) λh0=>?_),Ya5,Zsg hp,ih]
  ·rfl
  ·rw[hlen]
   have hq:l[k-1]?=some (l[k-1]'(by omega)):=Yax _;have h1:(segM V l k)[k-1]?=some (docM V (k-1) (l[k-1]'(by omega))):=by
    rw[ih,Yci,Yag (by omega),Zsg hq]
   rw[Zq8 h1];show((k-1:Nat):Int)<((k:Nat):Int);omega
theorem Ziq {V:Voc} (hV:VOk V) {l:List (Nm×Nm)} (hl:Zb1 l):segM V l l.length=Zcd V l:=by
 rw[Zk3 hV hl _ (Yar _),Yav (by rw[Zh5];exact Yar _)]
theorem Zsc {V:Voc} (hV:VOk V) {l:List (Nm×Nm)} (hl:Zb1 l):MWF (Zcd V l):=by
 rw[<- Ziq hV hl];exact Znm hV l (Yar _)
def Zfr (l:List (Nm×Nm)):Nat:=(l.map λp=>p.2.length).sum
theorem Zr8 {V:Voc} (hV:VOk V):∀ (l:List (Nm×Nm)) (i:Nat),(∀ p∈l,Zf8 p)->totT (l.mapIdx λj p=>docM V (i+j) p)<=Zfr l
 | [],_,_=>by simp[totT,Zfr]
 | p :: r,i,h=>by
  have h1:=Zr8 hV r (i+1) λx hx=>h x (Yap _ hx);have h2:=Qcg hV p.2;have h3:(docM V (i+0) p).T=encL V.mer p.2:=Znq (h p (Yam ..)).2.2;have h4:(List.mapIdx (λj q=>docM V (i+j) q) (p :: r))=docM V (i+0) p :: List.mapIdx (λj q=>docM V (i+1+j) q) r:=by
   rw[List.mapIdx_cons];congr 1;refine List.ext_getElem? λk=>?_;rw[List.getElem?_mapIdx,List.getElem?_mapIdx];congr 2;funext q;rw[show i+(k+1)=i+1+k by omega]
  rw[h4];have h5:totT (docM V (i+0) p :: List.mapIdx (λj q=>docM V (i+1+j) q) r)=(docM V (i+0) p).T.length+totT (List.mapIdx (λj q=>docM V (i+1+j) q) r):=by simp[totT]
  have h6:Zfr (p :: r)=p.2.length+Zfr r:=by simp[Zfr]
  rw[h5,h6,h3];omega
theorem Zhy {V:Voc} (hV:VOk V) {l:List (Nm×Nm)} (hl:Zb1 l):totT (Zcd V l)<=Zfr l:=by
 have h:=Zr8 hV l 0 hl.2.1;have e:Zcd V l=l.mapIdx λj p=>docM V (0+j) p:=by
  unfold Zcd;congr 1;funext j p;rw[Ya4]
 rw[e];exact h
theorem Zkd (L:List MDoc) (t:Int):Zcl (Zax L t)<=totT L:=by
 unfold Zax;rw[Zhj L t _ (Yar _),Ya6];unfold totT
 induction L with
 | nil=>simp
 | cons x r ih=>
  simp only[Ya2,List.sum_cons];have:=List.count_le_length (a:=t) (l:=x.T)
  omega
theorem Zoj {l:List Pst} (hl:ValidP l):(putP l).length<=10+70*l.length+20*Zcl l:=by
 have hs:∀ k,k<=l.length->(cat (lin l) 0 k).length<=70*k+20*Zcl (l.take k):=by
  intro k
  induction k with
  | zero=>intro _;simp[cat,Zcl]
  | succ k ih=>
   intro hk;have ih:=ih (by omega);have hx:l[k]?=some (l[k]'(by omega)):=Yax _;have hmem:=Yay (h:=(by omega:k<l.length));have hp:pAt l k=l[k]'(by omega):=Zef hx;have h1:(lin l k).length<=70+20*(l[k]'(by omega)).2.length:=by
    have hfit:=hl.fit _ hmem;have hsm:=hl.spots _ hmem;have hl1:=Zcx (l[k]'(by omega)).2;have hpl:=Zhv hfit;have g1:=Zf6 (poss (l[k]'(by omega)).2) (-1) (by omega) (hl.pos _ hmem) hpl.1;have g2:=Zf6 (atss (l[k]'(by omega)).2) (-1) (by omega) (hl.at_ _ hmem) hpl.2;have q1:=Zao (poss (l[k]'(by omega)).2).length (by rw[hl1.1];omega);have q2:=Zao (atss (l[k]'(by omega)).2).length (by rw[hl1.2];omega);have q3:=Zao ((pAt l k).1-Zaq l k-1).toNat (by
     have:=hl.docs _ (Zay (by omega:k<l.length))
     have:=hl.last (by omega:k<=l.length)
     omega)
    have hu:(Zbh l k).length<=30+20*(l[k]'(by omega)).2.length:=by
     unfold Zbh putR;simp only[Yaq];rw[hp]at q3 ⊢;rw[hl1.1]at g1;rw[hl1.2]at g2;omega
    have hb:=Zp9 hl (by omega:k<l.length);have hg:=Zn1 hl (by omega:k<l.length);unfold lin linB;rw[Yaq,Yaq];split<;>split<;>simp<;>omega
   have h2:Zcl (l.take (k+1))=Zcl (l.take k)+(l[k]'(by omega)).2.length:=by
    have e:l.take (k+1)=l.take k++[l[k]'(by omega)]:=by rw[Ya5,hx];rfl
    unfold Zcl;rw[e,Ybe,List.sum_append,Ya2,List.map_nil,List.sum_cons,List.sum_nil,Nat.add_zero]
   rw[Zhp (lin l) 0 k 1,Yaq,h2];have h3:(cat (lin l) (0+k) 1).length=(lin l k).length:=by simp[cat]
   rw[h3];omega
 have h1:=hs l.length (Yar _);rw[Ya6]at h1;have h2:=Zao l.length (by have:=hl.few;omega);unfold putP;rw[Yaq];omega
end
section
open Go.RowKit Go.Maps Go.WideMaps
def docG (f:Nm):(Nm×Nm)×Int:=
 (((Zek ⟨f,0,0⟩ 32).1,(Zbd (Zek ⟨f,0,0⟩ 32).2 (Zbt (Zek ⟨f,0,0⟩ 32).2)).1),(Zbd (Zek ⟨f,0,0⟩ 32).2 (Zbt (Zek ⟨f,0,0⟩ 32).2)).2.e)
def Zc7 (l:List Nm):Nat->Option (List (Nm×Nm))
 | 0=>some []
 | i+1=>match Zc7 l i with
  | none=>none
  | some D=>if (docG (l.getD (1+i) [])).2≠0 then none else some (D++[(docG (l.getD (1+i) [])).1])
def Zi9 (f:Nm):Int:=(rInt ⟨f,0,0⟩ 511).1
def Zlh (f:Nm):Nm×Rd:=Zbd (rInt ⟨f,0,0⟩ 511).2 (Zbt (rInt ⟨f,0,0⟩ 511).2)
def Zfs (f:Nm):List Pst×Int:=getP (Zlh f).1
def Zfi (T:List (Int×List Pst)):Int:=if T.length=0 then -1 else (T.getD (T.length-1) (0,[])).1
def Zjv (p:List Pst):Int:=(p.getD (p.length-1) (0,[])).1
def Zec (f:Nm) (T:List (Int×List Pst)) (docs:Int):Prop:=(Zlh f).2.e≠0\/(Zfs f).2≠0\/Zi9 f<=Zfi T\/(Zfs f).1.length=0\/docs<=Zjv (Zfs f).1
instance (f:Nm) (T:List (Int×List Pst)) (docs:Int):Decidable (Zec f T docs):=by unfold Zec;infer_instance
def Zbn (l:List Nm) (docs:Nat):Nat->Option (List (Int×List Pst))
 | 0=>some []
 | i+1=>match Zbn l docs i with
  | none=>none
  | some T=>if Zec (l.getD (1+docs+i) []) T docs then none else some (T++[(Zi9 (l.getD (1+docs+i) []),(Zfs (l.getD (1+docs+i) [])).1)])
def Zc2 (f:Nm):Int×Int×Rd:=((rInt ⟨f,0,0⟩ 1073741824).1,(rInt (rInt ⟨f,0,0⟩ 1073741824).2 1073741824).1,(rInt (rInt ⟨f,0,0⟩ 1073741824).2 1073741824).2)
def Zh4 (b:Nm):Option (List (Nm×Nm)×List (Int×List Pst)):=
 if (allF b).2≠0\/(allF b).1.length=0 then none
 else if (Zc2 ((allF b).1.getD 0 [])).2.2.e≠0\/0<Zbt (Zc2 ((allF b).1.getD 0 [])).2.2\/((allF b).1.length:Int)-1≠(Zc2 ((allF b).1.getD 0 [])).1+(Zc2 ((allF b).1.getD 0 [])).2.1 then none
 else match Zc7 (allF b).1 (Zc2 ((allF b).1.getD 0 [])).1.toNat with
  | none=>none
  | some D=>if Zb1 D then (Zbn (allF b).1 (Zc2 ((allF b).1.getD 0 [])).1.toNat (Zc2 ((allF b).1.getD 0 [])).2.1.toNat).map λT=>(D,T) else none
structure TermsSee (w:World) (A:Option Addr) (n:Nat) (T:List (Int×List Pst)):Prop where
 len:T.length=n
 fit:n<=maxLen
 nil:A=none->n=0
 at_:∀ ad,A=some ad->∀ (i:Nat) (x:Int×List Pst),T[i]?=some x->Zaj x.1/\w.cell? (ad.add (i*2))=some (.int .i64 x.1)/\∃ B c,w.cell? (ad.add (i*2+1))=some (.slice B x.2.length c)/\x.2.length<=c/\PostsSee w B x.2.length x.2
theorem TermsSee.below {w w':World} {A:Option Addr} {n:Nat} {T:List (Int×List Pst)} (h:TermsSee w A n T) (hb:Below w.heap.size w w'):TermsSee w' A n T where
 len:=h.len
 fit:=h.fit
 nil:=h.nil
 at_:=λad e i x hx=>by
  obtain⟨h1,h2,B,c,h3,h4,h5⟩:=h.at_ ad e i x hx;exact⟨h1,Zag hb h2,B,c,Zag hb h3,h4,h5.below hb⟩
theorem TermsSee.at {w:World} {A:Option Addr} {n:Nat} {T:List (Int×List Pst)} (h:TermsSee w A n T) (k:Nat) (hk:k<n):
  ∃ ad x B c,A=some ad/\T[k]?=some x/\Zaj x.1/\w.cell? (ad.add (k*2))=some (.int .i64 x.1)/\w.cell? ⟨(ad.add (k*2)).block,(ad.add (k*2)).off+1,none⟩=some (.slice B x.2.length c)/\x.2.length<=c/\PostsSee w B x.2.length x.2:=by
 have hl:=h.len;cases hA:A with
 | none=>have:=h.nil hA;omega
 | some ad=>
  subst hA;have hx:T[k]?=some (T[k]'(by omega)):=Yax _;obtain⟨h1,h2,B,c,h3,h4,h5⟩:=h.at_ ad rfl k _ hx;rw[Zcy _ _ _ (by omega)]at h3;exact⟨ad,_,B,c,rfl,hx,h1,h2,h3,h4,h5⟩
structure Zrg (w:World) (g:Nat) (D:List (Nm×Nm)) (T:List (Int×List Pst)):Prop where
 at_:∃ A B c c2,Blk w g 120 #[.slice A D.length c,.slice B T.length c2]/\DocsIn w A D.length D/\TermsSee w B T.length T
def RPostsF (w:World) (G:Nat->Prop) (v:Value) (L:List Pst):Prop:=
 ∃ R:List (Int×Value),R.length=L.length/\w.ownsRow 0 62 2 v L.length (R.flatMap Zan)/\(∀ g,v.ownBlock=some g->G g)/\∀ (i:Nat) (p:Int×Value) (x:Pst),R[i]?=some p->L[i]?=some x->PostAt w x p G
theorem PostsO.toF {w:World} {base:Nat} {v:Value} {L:List Pst} {G:Nat->Prop} (h:PostsO w base v L) (hG:∀ i,base<=i->i<w.heap.size->G i):RPostsF w G v L:=by
 obtain⟨R,h0,h1,h2⟩:=h;exact⟨R,h0,Go.Joins.ownsRow_le h1 (Ybd _),λg hg=>hG g (h1.lt g hg).1 (h1.lt g hg).2,λi p x e1 e2=>(h2 i p x e1 e2).mono (λi hi hf=>⟨rfl,hG i hf.1 hi⟩) (Yar _)⟩
theorem RPostsF.keep {w w':World} {G G':Nat->Prop} {v:Value} {L:List Pst} (h:RPostsF w G v L) (hk:∀ i,i<w.heap.size->G i->w'.heap[i]?=w.heap[i]?/\G' i) (hs:w.heap.size<=w'.heap.size):RPostsF w' G' v L:=by
 obtain⟨R,h0,h1,h2,h3⟩:=h;exact⟨R,h0,Zab h1 λg hg=>(hk g (h1.lt g hg).2 (h2 g hg)).1,λg hg=>(hk g (h1.lt g hg).2 (h2 g hg)).2,λi p x e1 e2=>(h3 i p x e1 e2).mono hk hs⟩
theorem RPostsF.see {w:World} {G:Nat->Prop} {n c:Nat} {A:Option Addr} {L:List Pst} (h:RPostsF w G (.slice A n c) L) (hn:L.length=n) (h63:n<=maxLen):PostsSee w A n L where
 len:=hn
 fit:=h63
 nil:=λe=>by
  obtain⟨R,h0,h1,-,h2⟩:=h;rcases h1.2 with⟨_,h3⟩|⟨g,cap,cur,h3,_⟩
  ·omega
  ·rw[e]at h3;cases h3
 at_:=λad e i x hx=>by
  obtain⟨R,h0,h1,-,h2⟩:=h;subst e;have hz:ad=⟨ad.block,0,none⟩:=by
   rcases h1.2 with⟨h3,_⟩|⟨g,cap,cur,h3,_⟩
   ·cases h3
   ·cases h3;rfl
  have hlt:=(Ybb.1 hx).1;obtain⟨p,hp⟩:∃ p,R[i]?=some p:=⟨_,Yax (by omega)⟩
  obtain⟨q1,q2,B,cc,q3,q4,q5,q6⟩:=h2 i p x hp hx;have hc:=λj u (hj:(Zan p)[j]?=some u)=>h1.cells (g:=ad.block) rfl (i*2+j) u (Zok R i j p u hp hj);have c0:=hc 0 _ rfl;have c1:=hc 1 _ rfl;have ha:∀ k,(⟨ad.block,0,none⟩:Addr).add k=⟨ad.block,k,none⟩:=λk=>by
   unfold Addr.add;split
   ·rename_i h0;rw[h0]
   ·simp
  rw[ha]at c0 c1;refine⟨q2,?_,B,cc,?_,q4,q5⟩
  ·rw[hz,ha,<- q1];exact c0
  ·rw[hz,ha,<- q3];exact c1
end
section
def docB (p:Nm×Nm):Nm:=putL p.1.length++p.1++p.2
def Zjb (n m:Nat):Nm:=putL n++putL m
def segL (l:List (Nm×Nm)) (L:List MDoc):List Nm:=Zjb l.length (Zas L).length :: (l.map docB++(Zas L).map (Zd5 L))
def segT (L:List MDoc):List (Int×List Pst):=(Zas L).map λt=>(t,Zax L t)
theorem Zzm (V:Voc) (l:List (Nm×Nm)):segB V l=(segL l (segM V l l.length)).flatMap putF:=by
 unfold segB segL;rw[Yan,Ybg,List.flatMap_map,List.flatMap_map,Yao];rfl
theorem Qbd (l:List (Nm×Nm)) (L:List MDoc):(segL l L).length=1+l.length+(Zas L).length:=by
 unfold segL;rw[Yah,Yaq,Ybf,Ybf];omega
theorem Qba {l:List (Nm×Nm)} (L:List MDoc) {i:Nat} {p:Nm×Nm} (h:l[i]?=some p):(segL l L).getD (1+i) []=docB p:=by
 have hlt:=(Ybb.1 h).1;unfold segL;rw[Yaw,Nat.add_comm 1 i,lz2,Yba (by rw[Ybf];exact hlt),Ych,h];rfl
theorem Zx5 (l:List (Nm×Nm)) {L:List MDoc} {i:Nat} {t:Int} (h:(Zas L)[i]?=some t):(segL l L).getD (1+l.length+i) []=Zd5 L t:=by
 unfold segL;rw[Yaw,show 1+l.length+i=(l.length+i)+1 by omega,lz2,Ybc (by rw[Ybf];omega),Ybf,Ybr,Ych,h];rfl
theorem Zjy {f x r:Nm} {p n:Nat} {most:Int} (hf:f=x++(putL n++r)) (hp:x.length=p) (hn:n<2 ^ 64) (hm:(n:Int)<=most):rInt ⟨f,p,0⟩ most=((n:Int),⟨f,p+(putL n).length,0⟩):=by
 have hd:f.drop p=putL n++r:=by rw[hf,<- hp,Ya3]
 unfold rInt;simp only;rw[hd,Zcz hn];simp only;rw[Yaf (by simp),Yaf (by simp),Yaf (by omega)]
theorem Zix {f x y r:Nm} {p:Nat} (hf:f=x++(y++r)) (hp:x.length=p):Zbd ⟨f,p,0⟩ (y.length:Nat)=(y,⟨f,p+y.length,0⟩):=by
 unfold Zbd;simp only;by_cases h:y.length=0
 ·have:y=[]:=List.length_eq_zero_iff.1 h
  subst this;simp
 ·have hl:f.length=p+y.length+r.length:=by rw[hf];simp;omega
  rw[Yaf (by omega),Yaf (by omega)];have hd:f.drop p=y++r:=by rw[hf,<- hp,Ya3]
  rw[hd,Yb3,List.take_left]
theorem Zk5 {f:Nm} {p:Nat}:Zbt ⟨f,p,0⟩=f.length-p:=rfl
theorem Zz1 {p:Nm×Nm} (hp:Zf8 p):docG (docB p)=(p,0):=by
 obtain⟨h1,h2,h3⟩:=hp;obtain⟨k,t⟩:=p;simp only at h1 h2 h3;have e1:rInt ⟨docB (k,t),0,0⟩ 32=((k.length:Int),⟨docB (k,t),0+(putL k.length).length,0⟩):=Zjy (x:=[]) (r:=k++t) (by simp[docB]) rfl (by omega) (by omega);have e2:Zek ⟨docB (k,t),0,0⟩ 32=(k,⟨docB (k,t),0+(putL k.length).length+k.length,0⟩):=by
  unfold Zek;rw[e1];exact Zix (x:=putL k.length) (r:=t) (by simp[docB]) (by omega)
 have e3:Zbt ⟨docB (k,t),0+(putL k.length).length+k.length,0⟩=t.length:=by
  rw[Zk5];simp[docB];omega
 have e4:Zbd ⟨docB (k,t),0+(putL k.length).length+k.length,0⟩ (t.length:Nat)=(t,⟨docB (k,t),0+(putL k.length).length+k.length+t.length,0⟩):=Zix (x:=putL k.length++k) (r:=[]) (by simp[docB]) (by simp);unfold docG;rw[e2];simp only;rw[e3,e4]
theorem Qbg {L:List MDoc} {t:Int} (h0:0<=t) (h1:t<=511):Zi9 (Zd5 L t)=t/\Zlh (Zd5 L t)=(putE (Zax L t),⟨Zd5 L t,(putL t.toNat).length+(putE (Zax L t)).length,0⟩):=by
 have e1:rInt ⟨Zd5 L t,0,0⟩ 511=(((t.toNat:Nat):Int),⟨Zd5 L t,0+(putL t.toNat).length,0⟩):=Zjy (x:=[]) (r:=putE (Zax L t)) (by simp[Zd5]) rfl (by omega) (by omega);refine⟨?_,?_⟩
 ·unfold Zi9
  rw[e1];exact Int.toNat_of_nonneg h0
 ·unfold Zlh
  rw[e1];have e3:Zbt ⟨Zd5 L t,0+(putL t.toNat).length,0⟩=(putE (Zax L t)).length:=by
   rw[Zk5];simp[Zd5]
  simp only;rw[e3];have:=Zix (f:=Zd5 L t) (x:=putL t.toNat) (y:=putE (Zax L t)) (r:=[]) (p:=0+(putL t.toNat).length) (by simp[Zd5]) (by simp)
  rw[this];simp
theorem Zp5 {l:List (Nm×Nm)} (L:List MDoc) (h:∀ p∈l,Zf8 p):∀ i,i<=l.length->Zc7 (segL l L) i=some (l.take i)
 | 0,_=>by simp[Zc7]
 | i+1,hi=>by
  have hp:l[i]?=some (l[i]'(by omega)):=Yax _;have hok:=h _ (Yay (h:=(by omega:i<l.length)));rw[Zc7,Zp5 L h i (by omega)];simp only;rw[Qba L hp,Zz1 hok,Yaf (by simp),Ya5,hp];rfl
theorem Zt5 {T:List (Int×List Pst)} {i:Nat} (hi:i<=T.length):Zfi (T.take i)=if i=0 then -1 else (T.getD (i-1) (0,[])).1:=by
 unfold Zfi;rw[Ycc,Yb7 hi];by_cases h:i=0
 ·rw[Yag h,Yag h]
 ·rw[Yaf h,Yaf h,Yaw,Yaw,Yci,Yag (by omega)]
theorem Znk (L:List MDoc):(segT L).length=(Zas L).length:=by unfold segT;rw[Ybf]
theorem Zw5 {L:List MDoc} {i:Nat} {t:Int} (h:(Zas L)[i]?=some t):(segT L)[i]?=some (t,Zax L t):=by
 unfold segT;rw[Ych,h];rfl
theorem Zuu {L:List MDoc} {t:Int} (h:t∈Zas L):0<(Zax L t).length:=by
 have:=Zyg L t
 rw[Yb0 h]at this;exact of_decide_eq_true this
theorem Zqo {L:List MDoc} (hL:MWF L) (t:Int):putE (Zax L t)=putP (Zax L t)/\getP (putE (Zax L t))=(Zax L t,0):=by
 have h1:putE (Zax L t)=putP (Zax L t):=by unfold putE;rw[Yag (Zq1 hL t)]
 exact⟨h1,by rw[h1];exact Ztw (Zdq hL t)⟩
structure SegW (L:List MDoc) (n:Nat):Prop where
 wf:MWF L
 tok:∀ t∈Zas L,0<=t/\t<=511
 doc:∀ x∈L,x.doc<(n:Int)
theorem Zl5 {l:List (Nm×Nm)} {L:List MDoc} (hW:SegW L l.length):∀ i,i<=(Zas L).length->Zbn (segL l L) l.length i=some ((segT L).take i)
 | 0,_=>by simp[Zbn]
 | i+1,hi=>by
  have hp:(Zas L)[i]?=some ((Zas L)[i]'(by omega)):=Yax _;obtain⟨t,ht⟩:=Ze ((Zas L)[i]'(by omega));rw[<- ht]at hp;have hmem:t∈Zas L:=Ybz hp;obtain⟨t0,t1⟩:=hW.tok t hmem;obtain⟨e1,e2⟩:=Qbg (L:=L) t0 t1;obtain⟨p1,p2⟩:=Zqo hW.wf t;have hpos:=Zuu hmem;have e3:Zfs (Zd5 L t)=(Zax L t,0):=by unfold Zfs;rw[e2];exact p2
  rw[Zbn,Zl5 hW i (by omega)];simp only;rw[Zx5 l hp,Yaf,e1,e3,Ya5,Zw5 hp]
  ·rfl
  ·unfold Zec
   rw[e1,e2,e3,Zt5 (by rw[Znk];omega)];rintro(h|h|h|h|h)
   ·exact h rfl
   ·exact h rfl
   ·split at h
    ·omega
    ·rename_i h0
     have hq:(Zas L)[i-1]?=some ((Zas L)[i-1]'(by omega)):=Yax _;rw[Yaw,Zw5 hq]at h;simp only[Ybw]at h;have h2:=Yck.1 (Zna L) (i-1) i (by omega) (by omega) (by omega);rw[<- ht]at h2;omega
   ·simp only at h;omega
   ·unfold Zjv at h
    simp only at h;have h2:(Zax L t).getD ((Zax L t).length-1) (0,[])∈Zax L t:=by
     rw[Yaw,Yax (by omega)];exact Yay _
    obtain⟨j,hj,e,-⟩:=Zej h2;rw[e]at h;simp only at h;have:=hW.doc _ (Zp0 hj)
    omega
theorem Zxa (n m:Nat) (hn:n<=1073741824) (hm:m<=1073741824):Zc2 (Zjb n m)=((n:Int),(m:Int),⟨Zjb n m,(Zjb n m).length,0⟩):=by
 have e1:rInt ⟨Zjb n m,0,0⟩ 1073741824=((n:Int),⟨Zjb n m,0+(putL n).length,0⟩):=Zjy (x:=[]) (r:=putL m) (by simp[Zjb]) rfl (by omega) (by omega);have e2:rInt ⟨Zjb n m,0+(putL n).length,0⟩ 1073741824=((m:Int),⟨Zjb n m,0+(putL n).length+(putL m).length,0⟩):=Zjy (x:=putL n) (r:=[]) (by simp[Zjb]) (by omega) (by omega) (by omega);unfold Zc2;rw[e1];simp only;rw[e2];simp only;congr 3;simp[Zjb]
theorem Zu1 {l:List (Nm×Nm)} {L:List MDoc} (hl:Zb1 l) (hW:SegW L l.length) (hd:L.length<=64) (hT:totT L<=4000):Qdp (segL l L):=by
 intro x hx;have hlt:=hl.1;unfold segL at hx;rcases Yat.1 hx with rfl|hx
 ·unfold Zjb
  have h1:=Zao l.length (by omega);have h2:=Zao (Zas L).length (by have:=Zeh L;omega);rw[Yaq];omega
 ·rcases Ybj.1 hx with hx|hx
  ·obtain⟨p,hp,rfl⟩:=Yaz.1 hx
   obtain⟨h1,h2,h3⟩:=hl.2.1 p hp;unfold docB;have h4:=Zao p.1.length (by omega);simp only[Yaq];omega
  ·obtain⟨t,ht,rfl⟩:=Yaz.1 hx
   obtain⟨t0,t1⟩:=hW.tok t ht;have h1:=Zao t.toNat (by omega);have h2:=Zoj (Zdq hW.wf t);have h3:=Zkd L t;have h4:(Zax L t).length<=L.length:=Zea L t _;unfold Zd5;rw[Yaq,(Zqo hW.wf t).1];omega
theorem Zze {l:List (Nm×Nm)} {L:List MDoc} (hl:Zb1 l) (hW:SegW L l.length) (hd:L.length<=64) (hT:totT L<=4000):Zh4 ((segL l L).flatMap putF)=some (l,segT L):=by
 have hn:=hl.1;have hm:=Zeh L;have e0:allF ((segL l L).flatMap putF)=(segL l L,0):=Qbi _ (Zu1 hl hW hd hT);have e1:(segL l L).getD 0 []=Zjb l.length (Zas L).length:=rfl;have e2:=Zxa l.length (Zas L).length (by omega) (by omega);have e3:=Qbd l L;have e4:=Zp5 L hl.2.1 l.length (Yar _);have e5:=Zl5 hW (Zas L).length (Yar _);rw[Ya6]at e4;rw[<- Znk L,Ya6]at e5;unfold Zh4;rw[e0];simp only;rw[e1,e2];simp only;rw[Yaf,Yaf,Yb3,Yb3,e4]
 ·simp only
  rw[Yag hl,<- Znk L,e5];rfl
 ·rintro(h|h|h)
  ·exact h rfl
  ·rw[Zk5]at h;omega
  ·rw[e3]at h
   push_cast at h;omega
 ·rintro(h|h)
  ·exact h rfl
  ·rw[e3]at h;omega
theorem Zyb {V:Voc} (hV:VOk V) {l:List (Nm×Nm)} (hl:Zb1 l):SegW (Zcd V l) l.length where
 wf:=Zsc hV hl
 tok:=λt ht=>by
  obtain⟨x,hx,h⟩:=terms_mem.1 ht;obtain⟨i,hi⟩:=List.getElem?_of_mem hx;unfold Zcd at hi;rw[List.getElem?_mapIdx]at hi;obtain⟨p,hp,rfl⟩:=Option.map_eq_some_iff.1 hi;have:=(Zih hV i p).1 t h
  omega
 doc:=λx hx=>by
  obtain⟨i,hi⟩:=List.getElem?_of_mem hx;have hlt:=(Ybb.1 hi).1;rw[Zh5]at hlt;unfold Zcd at hi;rw[List.getElem?_mapIdx]at hi;obtain⟨p,hp,rfl⟩:=Option.map_eq_some_iff.1 hi;show(i:Int)<_;omega
theorem Zva {V:Voc} (hV:VOk V) {l:List (Nm×Nm)} (hl:Zb1 l) (ht:Zfr l<=4000):Zh4 (segB V l)=some (l,segT (Zcd V l)):=by
 rw[Zzm,Ziq hV hl];exact Zze hl (Zyb hV hl) (by rw[Zh5];exact hl.1) (by have:=Zhy hV hl;omega)
end
section
open Go.RowKit Go.Maps Go.WideMaps
def SegOut (w:World) (V:Voc) (l:List (Nm×Nm)) (e:Ending) (w':World):Prop:=
 if Zb1 l then TxtOut w (segB V l) 0 e w' else e=.returned (.tuple #[.slice none 0 0,.int .i64 1])/\Below w.heap.size w w'
theorem RowsSee.from_ {w:World} {A:Option Addr} {n c:Nat} {L:List Nm} (h:RowsSee w A n L) (hc:n<=c) (p:Nat) (hp:p<=n):RowsSee w (Zak A p c) (n-p) (L.drop p) where
 len:=by rw[Yas,h.len]
 fit:=Ybu (Nat.sub_le _ _) h.fit
 at_:=λi x hx=>by
  rw[Ybv]at hx;have hl:=(Ybb.1 hx).1;rw[h.len]at hl;obtain⟨ad,C,c',e1,e2,e3,e4⟩:=h.at_ (p+i) x hx;have hcp:¬ c=p:=by omega
  refine⟨ad.add p,C,c',by unfold Zak;rw[Yaf hcp,e1];rfl,?_,e3,e4⟩;have:(ad.add p).add i=ad.add (p+i):=Go.Deep.add_add ad p i;rw[this];exact e2
theorem Qff (w:World) (A:Option Addr) (n c p:Nat) (h:p<=c):(Instr.slice 27 (.slice A n c) none (some (.int .u8 p)) none).run Tryz.prog w=.ok (.slice A p c) w:=by
 obtain⟨i0,hi,hz0,hz1,hz2⟩:=info_parts Zgf;rw[run_slice_h (P:=Tryz.prog) (w:=w) 27 A n c Tryz.underlying27 .u8 p (by omega) (by omega)];have he:Tryz.prog.elem 27=24:=by kernel_rfl
 rw[he];have hs:(sizeOf 24).run Tryz.prog w=Result.ok i0.size w:=by
  rw[run_sizeOf w hi];unfold Program.cellsOf;rw[hi];rfl
 rw[hs];simp[Result.andThen,sliced,Addr.add]
theorem Zqf (w:World) (A:Option Addr) (n c p:Nat) (hp:p<=n):(Instr.slice 27 (.slice A n c) (some (.int .i64 p)) none none).run Tryz.prog w=.ok (.slice (Zak A p c) (n-p) (c-p)) w:=by
 obtain⟨i0,hi,hz0,hz1,hz2⟩:=info_parts Zgf;have hs:(sizeOf (Tryz.prog.elem 27)).run Tryz.prog w=.ok 1 w:=by
  rw[show Tryz.prog.elem 27=24 by kernel_rfl,run_sizeOf w hi];unfold Program.cellsOf;rw[hi];simp[hz1]
 rw[run_slice_l (P:=Tryz.prog) (w:=w) 27 A n c Tryz.underlying27 .i64 p (by omega) (by omega),hs];simp[Result.andThen,sliced,Zak]
theorem Zr1 {w:World} {base:Nat} {A:Option Addr} {n c:Nat} {svs:List Value} {L:List Nm} (h:w.ownsRow base 24 1 (.slice A n c) n svs) (hl:L.length=n) (h63:n<=maxLen) (hv:∀ (i:Nat) (sv:Value) (x:Nm),svs[i]?=some sv->L[i]?=some x->Holds1 w sv x):RowsSee w A n L/\n<=c:=by
 obtain⟨A',c',e1,e2⟩:=Za0 h;injection e1 with ea en ec;subst ea ec;refine⟨⟨hl,h63,λi x hx=>?_⟩,e2⟩;have hsl:svs.length=n:=by have:=h.1;simpa using this
 have hi:=(Ybb.1 hx).1;have hs:svs[i]?=some (svs[i]'(by omega)):=Yax _;obtain⟨C,cc,h3,h4,h5⟩:=hv i _ x hs hx;have hsrc:=Zbj h;cases A with
 | none=>have:=hsrc.nil rfl;omega
 | some ad=>
  have:=hsrc.cells ad rfl i _ hs
  rw[h3]at this;exact⟨ad,C,cc,rfl,this,h4,h5⟩
theorem Zkj (L:List Mg):(L.flatMap Zav).length=L.length*3:=by
 induction L with
 | nil=>rfl
 | cons a r ih=>rw[Yan,Yaq,ih,Yah];simp[Zav];omega
theorem Zrb (L:List Mg):∀ u∈L.flatMap Zav,u.oneCell'=true:=by
 intro u hu;obtain⟨p,_,hp⟩:=List.mem_flatMap.1 hu;simp only[Zav,Yat,List.not_mem_nil,or_false]at hp;rcases hp with rfl|rfl|rfl<;>rfl
theorem MgSee.src {w:World} {B:Option Addr} {n:Nat} {M:List Mg} (h:MgSee w B n M):SrcN w B n 3 (M.flatMap Zav) where
 len:=by rw[Zkj,h.len]
 cells:=λad e q u hu=>by
  obtain⟨m,hm,hmu⟩:=Qb6 (s:=3) (by omega) (λ_=>rfl) M q u hu;obtain⟨ad',e1,c0,c1,c2⟩:=h.at_ (q/3) m hm;rw[e]at e1;cases e1
  have e2:q/3*3+q % 3=q:=by omega
  have h2:q % 3<3:=Nat.mod_lt _ (by omega);have h3:q % 3=0\/q % 3=1\/q % 3=2:=by omega
  rw[<- e2];rcases h3 with h3|h3|h3<;>rw[h3]at hmu ⊢<;>simp[Zav]at hmu<;>rw[<- hmu]
  ·exact c0
  ·rw[Zcy _ _ _ (by omega)];exact c1
  ·rw[Zcy _ _ _ (by omega)];exact c2
 nil:=λe=>by
  rcases Yai n with h0|h0
  ·exact h0
  ·obtain⟨ad',e1,_⟩:=h.at_ 0 _ (Yax (by rw[h.len];exact h0))
   rw[e]at e1;cases e1
theorem MgSee.own {w:World} {base:Nat} {B:Option Addr} {n c:Nat} {M:List Mg} (h:w.ownsRow base 88 3 (.slice B n c) n (M.flatMap Zav)) (hl:M.length=n) (h63:n<=maxLen) (hf:∀ m∈M,Zjn m):MgSee w B n M/\n<=c:=by
 have hc:n<=c:=by
  rcases h.2 with⟨h1,h0⟩|⟨g,cap,cur,h1,_,_,hc,_⟩
  ·omega
  ·injection h1 with _ _ h3
   omega
 refine⟨⟨hl,h63,λi m hi=>?_,λm hm=>hf m hm⟩,hc⟩;have hil:=(Ybb.1 hi).1;cases B with
 | none=>
  rcases h.2 with⟨h1,h0⟩|⟨g,cap,cur,h1,_⟩
  ·omega
  ·cases h1
 | some ad=>
  have hz:ad=⟨ad.block,0,none⟩:=by
   rcases h.2 with⟨h1,_⟩|⟨g,cap,cur,h1,_⟩
   ·cases h1
   ·cases h1;rfl
  have hcs:=λj u (hj:(Zav m)[j]?=some u)=>h.cells (g:=ad.block) rfl (i*3+j) u (Zjf (s:=3) (λ_=>rfl) M i j m u hi hj);have c0:=hcs 0 _ rfl;have c1:=hcs 1 _ rfl;have c2:=hcs 2 _ rfl;rw[Zaz]at c0 c1 c2;refine⟨ad,rfl,?_,?_,?_⟩
  ·rw[hz,Zaz];exact c0
  ·rw[hz,Zaz];exact c1
  ·rw[hz,Zaz];exact c2
end
section
open Go.RowKit Go.Maps Go.WideMaps Go.Sort
def cmpI (x y:Int):Int:=if x<y then -1 else if y<x then 1 else 0
theorem Zlj (w:World) (x:Int):Calls Tryz.prog 186 #[.int .i64 x] w λe w'=>e=.returned (.bool false)/\w'=w:=by
 go_enter Tryz.func186,Tryz.ntmps186;go_wp2;go_ret;exact⟨rfl,rfl⟩
theorem Zrs (w:World) (x y:Int):Calls Tryz.prog 156 #[.int .i64 x,.int .i64 y] w λe w'=>e=.returned (.int .i64 (cmpI x y))/\w'=w:=by
 unfold cmpI;by_cases h1:x<y
 ·rw[Yag h1]
  go_enter Tryz.func156,Tryz.ntmps156;go_wp2_with (go_at_call 186;refine(Zlj _ _).mono ?_;rintro e w' ⟨rfl,rfl⟩);go_ret;exact⟨rfl,rfl⟩
 ·by_cases h2:y<x
  ·rw[Yaf h1,Yag h2]
   go_enter Tryz.func156,Tryz.ntmps156;go_wp2_with (go_at_call 186;refine(Zlj _ _).mono ?_;rintro e w' ⟨rfl,rfl⟩);go_ret;exact⟨rfl,rfl⟩
  ·rw[Yaf h1,Yaf h2]
   go_enter Tryz.func156,Tryz.ntmps156;go_wp2_with (go_at_call 186;refine(Zlj _ _).mono ?_;rintro e w' ⟨rfl,rfl⟩);go_ret;exact⟨rfl,rfl⟩
theorem Zl3 (w:World) (x y:Int) {r:Int} (h:cmpI x y=r):Calls Tryz.prog 156 #[.int .i64 x,.int .i64 y] w λe w'=>e=.returned (.int .i64 r)/\w'=w:=by
 have:=Zrs w x y
 rw[h]at this;exact this
def orI (x y:Int):Int:=if x=0 then y else x
theorem Qeo (w:World) (b:Nat) (x y:Int) (h0:w.cell? ⟨b,0,none⟩=some (.int .i64 x)) (h1:w.cell? ⟨b,1,none⟩=some (.int .i64 y)):
  Calls Tryz.prog 155 #[.slice (some ⟨b,0,none⟩) 2 2] w λe w'=>e=.returned (.int .i64 (orI x y))/\w'=w:=by
 unfold orI;by_cases hx:x=0
 ·by_cases hy:y=0
  ·subst hx;subst hy
   go_enter Tryz.func155,Tryz.ntmps155;go_wp2;go_loop [8] (λi=>∃ k:Nat,k<=2/\i=.int .i64 k) (λi=>2-(intOf i).toNat);case atStart=>exact⟨0,by omega,rfl⟩
   case round=>
    obtain⟨k,hk,rfl⟩:=hrel;obtain rfl|rfl|rfl:k=0\/k=1\/k=2:=by omega
    ·go_wp2
     go_round;case rel=>exact⟨1,by omega,rfl⟩
     case measure=>simp[intOf]
    ·go_wp2
     go_round;case rel=>exact⟨2,by omega,rfl⟩
     case measure=>simp[intOf]
    ·go_wp2
     go_ret;exact⟨rfl,rfl⟩
  ·subst hx
   go_enter Tryz.func155,Tryz.ntmps155;go_wp2;go_loop [8] (λi=>∃ k:Nat,k<=1/\i=.int .i64 k) (λi=>2-(intOf i).toNat);case atStart=>exact⟨0,by omega,rfl⟩
   case round=>
    obtain⟨k,hk,rfl⟩:=hrel;obtain rfl|rfl:k=0\/k=1:=by omega
    ·go_wp2
     go_round;case rel=>exact⟨1,by omega,rfl⟩
     case measure=>simp[intOf]
    ·go_wp2
     go_ret;exact⟨rfl,rfl⟩
 ·rw[Yaf hx]
  go_enter Tryz.func155,Tryz.ntmps155;go_wp2;go_loop [8] (λi=>i=.int .i64 0) (λi=>2-(intOf i).toNat);case atStart=>exact rfl
  case round=>
   obtain rfl:=hrel;go_wp2;go_ret;exact⟨rfl,rfl⟩
theorem Qfe (w:World) (a b c:Obj):((w.alloc a).alloc b).drew.alloc c=grow (w.drewN 1) (#[a]++#[b]++#[c]):=by
 show((w.drew.alloc a).alloc b).alloc c=_;rw[alloc_eq_grow,alloc_eq_grow,alloc_eq_grow,grow_grow,grow_grow];rfl
def stV (s:Nat×Nat):List Value:=[.int .i64 s.1,.int .i64 s.2]
def dwn (s t:Nat×Nat):Int:=orI (cmpI t.1 s.1) (cmpI t.2 s.2)
theorem Zfk (s t:Nat×Nat):dwn s t<0↔gtS s t:=by
 unfold dwn orI cmpI gtS;split<;>split at* <;>(try split at *)<;>(try split)<;>(try split)<;>omega
theorem Qan (s t:Nat×Nat):-1<=dwn s t/\dwn s t<=1:=by
 unfold dwn orI cmpI;split<;>split at* <;>(try split at *)<;>(try split)<;>(try split)<;>omega
theorem Zil (w:World) (s t:Nat×Nat):
  Calls Tryz.prog 115 #[.agg #[.int .i64 s.1,.int .i64 s.2],.agg #[.int .i64 t.1,.int .i64 t.2]] w λe w'=>e=.returned (.int .i64 (dwn s t))/\∃ q os,w'=grow (w.drewN q) os:=by
 obtain⟨a,b⟩:=s;obtain⟨c,d⟩:=t;unfold dwn;obtain⟨x,hx⟩:=Ze (cmpI (c:Int) (a:Int));obtain⟨y,hy⟩:=Ze (cmpI (d:Int) (b:Int));simp only[<- hx,<- hy];have HX:=Zh hx;have HY:=Zh hy;clear hx hy;go_enter Tryz.func115,Tryz.ntmps115;go_wp2_with fail;obtain⟨W,hW⟩:=Ze ((w.alloc (.cells #[.int .i64 a,.int .i64 b] 201)).alloc (.cells #[.int .i64 c,.int .i64 d] 201));rw[<- hW];have B1:Blk W w.heap.size 201 #[.int .i64 a,.int .i64 b]:=by rw[hW];exact(Blk.new w _ _).alloc _
 have B2:Blk W (w.heap.size+1) 201 #[.int .i64 c,.int .i64 d]:=by
  rw[hW];have:=Blk.new (w.alloc (.cells #[.int .i64 a,.int .i64 b] 201)) 201 #[.int .i64 c,.int .i64 d]
  simpa using this
 have g1:=B1.cell 0;have g2:=B1.cell 1;have g3:=B2.cell 0;have g4:=B2.cell 1;simp only[lz0,lz1,lz2]at g1 g2 g3 g4;have HW:=Zh hW;clear hW B1 B2;refine wp_region_still_tail 10 (by kernel_rfl) (by kernel_rfl) ?_;simp only[Yaj,List.take_zero,List.drop_succ_cons,List.drop_zero];repeat still_step
 still_call (Zl3 _ _ _ HX.out.symm)
 repeat still_step
 still_call (Zl3 _ _ _ HY.out.symm)
 repeat still_step
 refine wpStill_nil ?_;change wpList _ _ _ _ _ W.drew;have h0:((W.drew).alloc (.cells #[.int .i64 x,.int .i64 y] 3)).cell? ⟨W.heap.size,0,none⟩=some (.int .i64 x):=by
  have:=(Blk.new W.drew 3 #[.int .i64 x,.int .i64 y]).cell 0
  simpa using this
 have h1:((W.drew).alloc (.cells #[.int .i64 x,.int .i64 y] 3)).cell? ⟨W.heap.size,1,none⟩=some (.int .i64 y):=by
  have:=(Blk.new W.drew 3 #[.int .i64 x,.int .i64 y]).cell 1
  simpa using this
 have H0:=Zh h0;have H1:=Zh h1;clear h0 h1 g1 g2 g3 g4;go_wp2_with (go_at_call 155;refine(Qeo _ _ _ _ H0.out H1.out).mono ?_;rintro e w' ⟨rfl,rfl⟩);go_ret;exact⟨rfl,1,_,by rw[HW.out];exact Qfe w _ _ _⟩
end
section
open Go.RowKit Go.Maps Go.WideMaps
def Zq9 (M:List Mg) (a b:Int):Int:=match rkOf M a b with|some k=>(k:Int)|none=>0
theorem Zoe {M:List Mg} {m:Mg} (h:Zba M m.a m.b=false) (a b:Int):rkOf (M++[m]) a b=if m.a=a/\m.b=b then some M.length else rkOf M a b:=by
 unfold rkOf;rw[List.findIdx?_append];split
 ·rename_i e
  obtain⟨rfl,rfl⟩:=e;have:=rkOf_none.2 h
  unfold rkOf at this;rw[this];simp
 ·rename_i e
  have:([m].findIdx? λm=>decide (m.a=a/\m.b=b))=none:=by simp[e]
  rw[this];cases M.findIdx? λm=>decide (m.a=a/\m.b=b)<;>rfl
structure RankMap (D:DataW Unit) (M:List Mg):Prop where
 isMap:IsMap D
 has:∀ a b,Zaj a->Zaj b->Maps.has D (pk a b)=(rkOf M a b).isSome
 at_:∀ a b,Zaj a->Zaj b->D.atKey (pk a b) (.lit (.int .i64 0))=.lit (.int .i64 (Zq9 M a b))
theorem RankMap.nil:RankMap (.map []) []:=⟨isMap_empty,λ_ _ _ _=>rfl,λ_ _ _ _=>rfl⟩
theorem RankMap.put {D:DataW Unit} {M:List Mg} (h:RankMap D M) {m:Mg} (hm:Zba M m.a m.b=false) (ha:Zaj m.a) (hb:Zaj m.b):RankMap (D.put (pk m.a m.b) (.lit (.int .i64 (M.length:Nat)))) (M++[m]):=by
 refine⟨h.isMap.put _ _,λa b fa fb=>?_,λa b fa fb=>?_⟩
 ·rw[Zoe hm]
  by_cases e:pk a b=pk m.a m.b
  ·obtain⟨rfl,rfl⟩:=Zwe fa fb ha hb e
   rw[has_put_same h.isMap (show WideAt.IsKeyLit (pk m.a m.b)from trivial),Yag ⟨rfl,rfl⟩];rfl
  ·rw[has_put_other e,h.has a b fa fb,Yaf λe2=>e (by rw[e2.1,e2.2])]
 ·unfold Zq9
  rw[Zoe hm];by_cases e:pk a b=pk m.a m.b
  ·obtain⟨rfl,rfl⟩:=Zwe fa fb ha hb e
   rw[atKey_put_same h.isMap (show WideAt.IsKeyLit (pk m.a m.b)from trivial),Yag ⟨rfl,rfl⟩]
  ·rw[atKey_put_other e,h.at_ a b fa fb,Yaf λe2=>e (by rw[e2.1,e2.2])]
   rfl
abbrev Znb (w:World) (b n:Nat) (D:DataW Unit):Prop:=w.ownsMap Tryz.prog 73 (plainElem Tryz.prog 3) b n D
theorem Zye {w:World} {b n:Nat} {D:DataW Unit} {M:List Mg} (h:Znb w b n D) (hR:RankMap D M) {x y:Int} (hx:Zaj x) (hy:Zaj y):
  (Instr.lookup 89 (.map (some b)) (.agg #[.int .i64 x,.int .i64 y]) true).run Tryz.prog w=.ok (.tuple #[.int .i64 (Zq9 M x y),.bool (rkOf M x y).isSome]) w:=by
 obtain⟨v,ps,hrun,hv⟩:=h.look_ok Ziy Tryz.underlying89 (Zyp _) (plainElem_int Tryz.underlying3 (by decide)) (Zcn hx hy);obtain⟨c,rfl,hc,_⟩:=plainElem_int_inv Tryz.underlying3 hv;rw[hR.has x y hx hy]at hrun;rw[hR.at_ x y hx hy]at hc;simp only[Prod.mk.injEq,DataW.lit.injEq,Lit.int.injEq,true_and]at hc;rw[hrun,hc.1]
structure IsCoder (w:World) (b:Nat) (V:Voc) (A B:Option Addr) (ca cb bp:Nat) (D:DataW Unit) (cs:Array Value):Prop where
 blk:Blk w b 92 cs
 c0:cs[0]?=some (.slice A V.tok.length ca)
 c1:cs[1]?=some (.slice B V.mer.length cb)
 cB:∀ c,c<256->cs[2+c]?=some (.int .i64 (c:Nat))
 cM:cs[258]?=some (.map (some bp))
 tok:RowsSee w A V.tok.length V.tok
 mer:MgSee w B V.mer.length V.mer
 map:Znb w bp V.mer.length D
 isR:RankMap D V.mer
 mlt:bp<w.heap.size
def Coder (w:World) (b:Nat) (V:Voc):Prop:=∃ A B ca cb bp D cs,IsCoder w b V A B ca cb bp D cs
theorem IsCoder.below {w w':World} {b:Nat} {V:Voc} {A B:Option Addr} {ca cb bp:Nat} {D:DataW Unit} {cs:Array Value} (h:IsCoder w b V A B ca cb bp D cs) (hb:Below w.heap.size w w'):IsCoder w' b V A B ca cb bp D cs where
 blk:=h.blk.below hb h.blk.lt
 c0:=h.c0
 c1:=h.c1
 cB:=h.cB
 cM:=h.cM
 tok:=h.tok.below hb
 mer:=h.mer.below hb
 map:=Zap h.map (hb.block _ h.mlt)
 isR:=h.isR
 mlt:=Ya7 h.mlt hb.size
theorem Coder.below {w w':World} {b:Nat} {V:Voc} (h:Coder w b V) (hb:Below w.heap.size w w'):Coder w' b V:=by
 obtain⟨A,B,ca,cb,bp,D,cs,h⟩:=h;exact⟨A,B,ca,cb,bp,D,cs,h.below hb⟩
structure IsRow (w0 w:World) (r b:Nat) (at_ before behind:List Int) (st:List (Nat×Nat)) (va vb vc vs:Value):Prop where
 blk:Blk w r 130 #[at0 b,va,vb,vc,vs]
 new:w0.heap.size<=r
 below:Below w0.heap.size w0 w
 atR:w.ownsRow w0.heap.size 3 1 va at_.length (at_.map i64V)
 befR:w.ownsRow w0.heap.size 3 1 vb before.length (before.map i64V)
 behR:w.ownsRow w0.heap.size 3 1 vc behind.length (behind.map i64V)
 stR:w.ownsRow w0.heap.size 201 2 vs st.length (st.flatMap stV)
 nab:∀ g,va.ownBlock=some g->vb.ownBlock≠some g
 nac:∀ g,va.ownBlock=some g->vc.ownBlock≠some g
 nbc:∀ g,vb.ownBlock=some g->vc.ownBlock≠some g
 fits:(∀ x∈at_,Zaj x)/\(∀ x∈before,Zaj x)/\∀ x∈behind,Zaj x
 small:at_.length<=1048576/\before.length<=1048576/\behind.length<=1048576/\st.length<=1048576
 stF:∀ s∈st,s.1<=1048576/\s.2<=1048576
def Row (w0 w:World) (r b:Nat) (at_ before behind:List Int) (st:List (Nat×Nat)):Prop:=∃ va vb vc vs,IsRow w0 w r b at_ before behind st va vb vc vs
theorem IsRow.then {w0 w w':World} {r b:Nat} {at_ before behind:List Int} {st:List (Nat×Nat)} {va vb vc vs:Value} (h:IsRow w0 w r b at_ before behind st va vb vc vs) (hb:Below w.heap.size w w'):IsRow w0 w' r b at_ before behind st va vb vc vs where
 blk:=h.blk.below hb h.blk.lt
 new:=h.new
 below:=Zaa h.below hb h.below.size
 atR:=Zab h.atR λg hg=>hb.block g (h.atR.lt g hg).2
 befR:=Zab h.befR λg hg=>hb.block g (h.befR.lt g hg).2
 behR:=Zab h.behR λg hg=>hb.block g (h.behR.lt g hg).2
 stR:=Zab h.stR λg hg=>hb.block g (h.stR.lt g hg).2
 nab:=h.nab
 nac:=h.nac
 nbc:=h.nbc
 fits:=h.fits
 small:=h.small
 stF:=h.stF
inductive Zp7 (M:List Mg) (at_ behind:List Int):Int->Option Nat->Prop where
 | neg:Zp7 M at_ behind (-1) none
 | stop (p:Nat):behind[p]?=some (at_.length:Int)->Zp7 M at_ behind p none
 | pair (p q:Nat) (a b:Int):behind[p]?=some (q:Int)->q<at_.length->at_[p]?=some a->at_[q]?=some b->Zp7 M at_ behind p (rkOf M a b)
def Qdq (w:World) (place:Int) (o:Option Nat) (e:Ending) (w':World):Prop:=
 ∃ x y:Int,e=.returned (.tuple #[.agg #[.int .i64 x,.int .i64 y],.bool o.isSome])/\(∀ k,o=some k->x=k/\y=place)/\Below w.heap.size w w'
theorem Zlo:(Tryz.prog.info? 201).map (·.size)=some 2:=by kernel_rfl
theorem Zjd (w0 w:World) (r b:Nat) (V:Voc) (hC:Coder w b V) {at_ before behind:List Int} {st:List (Nat×Nat)} (hR:Row w0 w r b at_ before behind st) {place:Int} {o:Option Nat} (ho:Zp7 V.mer at_ behind place o):
  Calls Tryz.prog 113 #[at0 r,.int .i64 place] w (Qdq w place o):=by
 obtain⟨A,B,ca,cb,bp,D,cs,hC⟩:=hC;obtain⟨va,vb,vc,vs,hR⟩:=hR;have b1:Below w.heap.size w (w.alloc (.cells #[.int .i64 0,.int .i64 0] 201)):=(Ybm _ w).alloc (Yar _) _;obtain⟨W,hW⟩:=Ze (w.alloc (.cells #[.int .i64 0,.int .i64 0] 201));have hs:Blk W w.heap.size 201 #[.int .i64 0,.int .i64 0]:=by rw[hW];exact Blk.new _ _ _
 rw[<- hW]at b1;have HW:=Zh hW;have HS:=Zh hs;have HB1:=Zh b1;have hR1:=hR.then b1
 have hC1:=hC.below b1;have g0:∀ q,(W.drewN q).cell? ⟨r,0,none⟩=some (at0 b):=λq=>by have:=(hR1.blk.drewN q).cell 0;simpa using this
 have g1:∀ q,(W.drewN q).cell? ⟨r,1,none⟩=some va:=λq=>by have:=(hR1.blk.drewN q).cell 1;simpa using this
 have g3:∀ q,(W.drewN q).cell? ⟨r,3,none⟩=some vc:=λq=>by have:=(hR1.blk.drewN q).cell 3;simpa using this
 have g5:∀ q,(W.drewN q).cell? ⟨b,258,none⟩=some (.map (some bp)):=λq=>by have:=(hC1.blk.drewN q).cell 258;rw[hC1.cM]at this;exact this
 have hMap:=hC1.map;have hIsR:=hC1.isR;have hfit:=hR1.fits.1;have hsm:=hR1.small.1;have hAt:=hR1.atR;have hBeh:=hR1.behR;have hfb:=hR1.fits.2.2;have hsb:=hR1.small.2.2.1;clear hC hR hR1 hC1 hW hs b1;have hout:∀ (n:Nat) (x y:Int),Below w.heap.size w ((W.drewN n).setCell ⟨w.heap.size,0,none⟩ (.int .i64 x) |>.setCell ⟨w.heap.size,1,none⟩ (.int .i64 y))/\Blk ((W.drewN n).setCell ⟨w.heap.size,0,none⟩ (.int .i64 x) |>.setCell ⟨w.heap.size,1,none⟩ (.int .i64 y)) w.heap.size 201 #[.int .i64 x,.int .i64 y]:=λn x y=>by
  refine⟨((Zaf HB1.out n).setCell (Yar _) _).setCell (Yar _) _,?_⟩;have:=((HS.out.drewN n).set_ 0 (.int .i64 x)).set_ 1 (.int .i64 y)
  simpa using this
 have HOUT:=Zh hout;clear hout;unfold at0 at g0 ⊢;cases ho with
 | neg=>
  clear hMap hIsR hfit hsm hAt hBeh hfb hsb g0 g1 g3 g5;have k0:decide ((-1:Int)<0)=true:=by decide
  have HK0:=Zh k0;go_enter Tryz.func113,Tryz.ntmps113;go_wp2_with fail;rw[<- HW.out];clear k0;go_quiet (fail);have e0:=(HS.out.drewN nq).cell 0;have e1:=(HS.out.drewN nq).cell 1;have z0:=(HS.out.drewN nq).frozen 0;have z1:=(HS.out.drewN nq).frozen 1;simp only[lz0,lz1,lz2]at e0 e1;go_wp2;refine bodyPost_ret (Zal rfl _ _ w.heap.size 201 #[.int .i64 0,.int .i64 0] (0,0) _ rfl ?_ Tryz.underlying201 rfl Zlo) rfl ?_
  ·exact(HOUT.out nq 0 0).2
  ·exact⟨0,0,rfl,(λk h=>by cases h),(HOUT.out nq 0 0).1⟩
 | stop p hp=>
  obtain⟨adc,cc,rfl,ec,hcc⟩:=Zb2 hBeh hp;obtain⟨A1,c1,rfl⟩:=Zac hAt;have hpl:p<behind.length:=(Ybb.1 hp).1;have l1:∀ q,(W.drewN q).cell? (adc.add p)=some (.int .i64 (at_.length:Int)):=λq=>ec;obtain⟨N,hN⟩:=Ze at_.length;obtain⟨M,hM⟩:=Ze behind.length;rw[<- hN]at l1 g1;rw[<- hM]at g3 hpl hsb;clear hMap hIsR hfit hsm hAt hBeh hfb ec hp hN hM hcc;have k0:decide ((p:Int)<0)=false:=by simp
  have k1:((N:Int)==(N:Int))=true:=by simp
  have hp0:(0:Int)<=(p:Int):=by omega
  have hpM:(p:Int)<(M:Int):=by omega
  go_enter Tryz.func113,Tryz.ntmps113;go_wp2_with fail;rw[<- HW.out];go_quiet (fail);have e0:=(HS.out.drewN nq).cell 0;have e1:=(HS.out.drewN nq).cell 1;have z0:=(HS.out.drewN nq).frozen 0;have z1:=(HS.out.drewN nq).frozen 1;simp only[lz0,lz1,lz2]at e0 e1;clear g0 g1 g3 g5 l1;go_wp2;refine bodyPost_ret (Zal rfl _ _ w.heap.size 201 #[.int .i64 0,.int .i64 0] (0,0) _ rfl ?_ Tryz.underlying201 rfl Zlo) rfl ?_
  ·exact(HOUT.out nq 0 0).2
  ·exact⟨0,0,rfl,(λk h=>by cases h),(HOUT.out nq 0 0).1⟩
 | pair p q x y hq hlt hx hy=>
  obtain⟨adc,cc,rfl,ec,hcc⟩:=Zb2 hBeh hq;obtain⟨ada,ca',rfl,ea,hca⟩:=Zb2 hAt hx;obtain⟨ada2,ca2,e2,ea2,_⟩:=Zb2 hAt hy;simp only[Value.slice.injEq,Option.some.injEq,true_and]at e2;obtain⟨rfl,rfl⟩:=e2;have hpl:p<behind.length:=(Ybb.1 hq).1;have hpa:p<at_.length:=(Ybb.1 hx).1;have fx:Zaj x:=hfit x (Ybz hx);have fy:Zaj y:=hfit y (Ybz hy);have l1:∀ n,(W.drewN n).cell? (adc.add p)=some (.int .i64 (q:Int)):=λn=>ec;have l2:∀ n,(W.drewN n).cell? (ada.add p)=some (.int .i64 x):=λn=>ea;have l3:∀ n,(W.drewN n).cell? (ada.add q)=some (.int .i64 y):=λn=>ea2;have hlk:∀ n,(Instr.lookup 89 (.map (some bp)) (.agg #[.int .i64 x,.int .i64 y]) true).run Tryz.prog (W.drewN n)=.ok (.tuple #[.int .i64 (Zq9 V.mer x y),.bool (rkOf V.mer x y).isSome]) (W.drewN n):=λn=>Zye (w:=W.drewN n) (Zap hMap rfl) hIsR fx fy;have hri:∀ k,rkOf V.mer x y=some k->Zq9 V.mer x y=k:=λk e=>by unfold Zq9;rw[e]
  have HRI:=Zh hri;obtain⟨O,hO⟩:=Ze (rkOf V.mer x y);obtain⟨K,hK⟩:=Ze (Zq9 V.mer x y);rw[<- hO,<- hK]at HRI;rw[<- hO,<- hK]at hlk;rw[<- hO];obtain⟨F,hF⟩:=Ze O.isSome;rw[<- hF]at hlk;have HF:=Zh hF;obtain⟨N,hN⟩:=Ze at_.length;obtain⟨M,hM⟩:=Ze behind.length;rw[<- hN]at g1 hlt hsm hpa;rw[<- hM]at g3 hpl hsb;clear hMap hIsR hfit hAt hBeh hfb ec ea ea2 hq hx hy hN hM hcc hca fx fy hri hO hK hF;have k0:decide ((p:Int)<0)=false:=by simp
  have k1:((q:Int)==(N:Int))=false:=by simp;omega
  have hp0:(0:Int)<=(p:Int):=by omega
  have hpM:(p:Int)<(M:Int):=by omega
  have hpN:(p:Int)<(N:Int):=by omega
  have hq0:(0:Int)<=(q:Int):=by omega
  have hqN:(q:Int)<(N:Int):=by omega
  go_enter Tryz.func113,Tryz.ntmps113;go_wp2_with fail;rw[<- HW.out];go_quiet (fail);go_wp2_with fail;obtain⟨n1,hn1⟩:=Ze nq;subst hn1;obtain⟨W1,hW1⟩:=Ze (W.drewN n1);have g0':∀ n,(W1.drewN n).cell? ⟨r,0,none⟩=some (.pointer (some ⟨b,0,none⟩)):=λn=>by rw[hW1];exact g0 (n1+n)
  have g1':∀ n,(W1.drewN n).cell? ⟨r,1,none⟩=some (.slice (some ada) N ca'):=λn=>by rw[hW1];exact g1 (n1+n)
  have g3':∀ n,(W1.drewN n).cell? ⟨r,3,none⟩=some (.slice (some adc) M cc):=λn=>by rw[hW1];exact g3 (n1+n)
  have g5':∀ n,(W1.drewN n).cell? ⟨b,258,none⟩=some (.map (some bp)):=λn=>by rw[hW1];exact g5 (n1+n)
  have l1':∀ n,(W1.drewN n).cell? (adc.add p)=some (.int .i64 (q:Int)):=λn=>by rw[hW1];exact l1 (n1+n)
  have l2':∀ n,(W1.drewN n).cell? (ada.add p)=some (.int .i64 x):=λn=>by rw[hW1];exact l2 (n1+n)
  have l3':∀ n,(W1.drewN n).cell? (ada.add q)=some (.int .i64 y):=λn=>by rw[hW1];exact l3 (n1+n)
  have hlk':∀ n,(Instr.lookup 89 (.map (some bp)) (.agg #[.int .i64 x,.int .i64 y]) true).run Tryz.prog (W1.drewN n)=.ok (.tuple #[.int .i64 K,.bool F]) (W1.drewN n):=λn=>by
   have h:=hlk (n1+n);rw[<- Ybs,<- hW1]at h;exact h
  clear g0 g1 g3 g5 l1 l2 l3 hlk;rw[<- hW1];have HW1:=Zh hW1;clear hW1;go_quiet (fail);rw[HW1.out,Ybs];have e0:=(HS.out.drewN (n1+nq)).cell 0;have e1:=(HS.out.drewN (n1+nq)).cell 1;have z0:=(HS.out.drewN (n1+nq)).frozen 0;have z1:=(HS.out.drewN (n1+nq)).frozen 1;simp only[lz0,lz1,lz2]at e0 e1;clear g0' g1' g3' g5' l1' l2' l3' hlk';go_wp2;refine bodyPost_ret (Zal rfl _ _ w.heap.size 201 #[.int .i64 K,.int .i64 p] (0,0) _ rfl ?_ Tryz.underlying201 rfl Zlo) rfl ?_
  ·exact(HOUT.out _ K p).2
  ·exact⟨K,p,by rw[<- HF.out];rfl,λk h=>⟨HRI.out k h,rfl⟩,(HOUT.out _ K p).1⟩
def Znc (w:World) (l:List (Int×Int)) (e:Ending) (w':World):Prop:=∃ A c,e=.returned (.slice A l.length c)/\PairsIn w' A l.length l/\l.length<=c/\(∀ ad,A=some ad->0<l.length->w.heap.size<=ad.block/\ad.block<w'.heap.size)/\Below w.heap.size w w'
structure CurW (K:World->(Nat->Prop)->Nat->CSt->Prop):Prop where
 keep:∀ {w w':World} {F:Nat->Prop} {b:Nat} {s:CSt},K w F b s->(∀ i,F i->w'.heap[i]?=w.heap[i]?)->w.heap.size<=w'.heap.size->K w' F b s
 lt:∀ {w:World} {F:Nat->Prop} {b:Nat} {s:CSt},K w F b s->∀ i,F i->i<w.heap.size
 doc:∀ {w:World} {F:Nat->Prop} {b:Nat} {s:CSt},K w F b s->CWF s->Calls Tryz.prog 66 #[.pointer (some ⟨b,0,none⟩)] w λe w'=>e=.returned (.tuple #[.int .i64 (cDoc s),.bool (cIn s)])/\Below w.heap.size w w'
 spots:∀ {w:World} {F:Nat->Prop} {b:Nat} {s:CSt},K w F b s->CWF s->Calls Tryz.prog 27 #[.pointer (some ⟨b,0,none⟩)] w (Znc w (Zo3 s))
 next:∀ {w:World} {F:Nat->Prop} {b:Nat} {s:CSt},K w F b s->CWF s->Calls Tryz.prog 67 #[.pointer (some ⟨b,0,none⟩)] w λe w'=>e=.returned (.bool (cIn (Zit s)))/\∃ F',K w' F' b (Zit s)/\Kept F w w'/\∀ i,F' i->F i\/w.heap.size<=i
theorem CurW.below {K:World->(Nat->Prop)->Nat->CSt->Prop} (hK:CurW K) {w w':World} {F:Nat->Prop} {b:Nat} {s:CSt} (h:K w F b s) (hb:Below w.heap.size w w'):K w' F b s:=hK.keep h (λi hi=>hb.block i (hK.lt h i hi)) hb.size
abbrev SegSt:=World->(Nat->Prop)->Nat->List (Nm×Nm)->List (Int×List Pst)->Prop
def Zrk (S:SegSt) (w:World) (r:Option (List (Nm×Nm)×List (Int×List Pst))) (e:Ending) (w':World):Prop:=
 Below w.heap.size w w'/\match r with
  | none=>e=.returned (.tuple #[.pointer none,.int .i64 3])
  | some x=>∃ g F,e=.returned (.tuple #[.pointer (some ⟨g,0,none⟩),.int .i64 0])/\S w' F g x.1 x.2/\∀ i,F i->w.heap.size<=i
def Zxy (K:World->(Nat->Prop)->Nat->CSt->Prop) (w:World) (p:Option (List Pst)) (e:Ending) (w':World):Prop:=
 Below w.heap.size w w'/\match p with
  | none=>e=.returned (.pointer none)
  | some l=>∃ b F,e=.returned (.pointer (some ⟨b,0,none⟩))/\K w' F b (Zf7 l)/\∀ i,F i->w.heap.size<=i
def Zey (T:List (Int×List Pst)) (t:Int):Option (List Pst):=(T.find? λx=>x.1==t).map Prod.snd
def Zim (D:List (Nm×Nm)) (i:Int):Nm×Nm:=if 0<=i/\i<(D.length:Int) then D.getD i.toNat ([],[]) else ([],[])
structure Zvd (D:List (Nm×Nm)) (T:List (Int×List Pst)):Prop where
 docs:Zb1 D
 up:(T.map Prod.fst).Pairwise (·<·)
 tok:∀ x∈T,0<=x.1/\x.1<=511
 good:∀ x∈T,ValidP x.2/\0<x.2.length
structure SegOk (S:SegSt) (K:World->(Nat->Prop)->Nat->CSt->Prop):Prop where
 keep:∀ {w w':World} {F:Nat->Prop} {g:Nat} {D:List (Nm×Nm)} {T:List (Int×List Pst)},S w F g D T->(∀ i,F i->w'.heap[i]?=w.heap[i]?)->w.heap.size<=w'.heap.size->S w' F g D T
 lt:∀ {w:World} {F:Nat->Prop} {g:Nat} {D:List (Nm×Nm)} {T:List (Int×List Pst)},S w F g D T->∀ i,F i->i<w.heap.size
 build:∀ {w:World} {b:Nat} {V:Voc},Coder w b V->VOk V->∀ (A:Option Addr) (n c:Nat) (l:List (Nm×Nm)),DocsIn w A n l->n<=c->Zfr l<=4000->Calls Tryz.prog 12 #[.pointer (some ⟨b,0,none⟩),.slice A n c] w (SegOut w V l)
 build_no:∀ {w:World} {b:Nat} {V:Voc},Coder w b V->VOk V->∀ (A:Option Addr) (n c:Nat) (l:List (Nm×Nm)),DocsIn w A n l->n<=c->¬ Zb1 l->Calls Tryz.prog 12 #[.pointer (some ⟨b,0,none⟩),.slice A n c] w (SegOut w V l)
 build_nil:∀ (w:World) (A:Option Addr) (n c:Nat) (l:List (Nm×Nm)),DocsIn w A n l->n<=c->Calls Tryz.prog 12 #[.pointer none,.slice A n c] w λe w'=>e=.returned (.tuple #[.slice none 0 0,.int .i64 1])/\Below w.heap.size w w'
 open_:∀ (w:World) (A:Option Addr) (n c:Nat) (b:Nm),BytesIn w A n b->n<=c->n<=1000000->Calls Tryz.prog 15 #[.slice A n c] w (Zrk S w (Zh4 b))
 many:∀ {w:World} {F:Nat->Prop} {g:Nat} {D:List (Nm×Nm)} {T:List (Int×List Pst)},S w F g D T->Zvd D T->Calls Tryz.prog 19 #[.pointer (some ⟨g,0,none⟩)] w λe w'=>e=.returned (.int .i64 (D.length:Int))/\Below w.heap.size w w'
 doc:∀ {w:World} {F:Nat->Prop} {g:Nat} {D:List (Nm×Nm)} {T:List (Int×List Pst)},S w F g D T->Zvd D T->∀ i:Int,Zaj i->Calls Tryz.prog 20 #[.pointer (some ⟨g,0,none⟩),.int .i64 i] w λe w'=>
  e=.returned (.tuple #[.agg #[.string ⟨(Zim D i).1.toArray⟩,.string ⟨(Zim D i).2.toArray⟩],.bool (decide (0<=i/\i<(D.length:Int)))])/\Below w.heap.size w w'
 terms:∀ {w:World} {F:Nat->Prop} {g:Nat} {D:List (Nm×Nm)} {T:List (Int×List Pst)},S w F g D T->Zvd D T->Calls Tryz.prog 25 #[.pointer (some ⟨g,0,none⟩)] w (Zg6 w (T.map Prod.fst))
 cursor:∀ {w:World} {F:Nat->Prop} {g:Nat} {D:List (Nm×Nm)} {T:List (Int×List Pst)},S w F g D T->Zvd D T->∀ t:Int,Zaj t->Calls Tryz.prog 24 #[.pointer (some ⟨g,0,none⟩),.int .i64 t] w (Zxy K w (Zey T t))
section
variable {S:SegSt} {K:World->(Nat->Prop)->Nat->CSt->Prop} (hS:SegOk S K)
include hS
theorem SegOk.below {w w':World} {F:Nat->Prop} {g:Nat} {D:List (Nm×Nm)} {T:List (Int×List Pst)} (h:S w F g D T) (hb:Below w.heap.size w w'):S w' F g D T:=hS.keep h (λi hi=>hb.block i (hS.lt h i hi)) hb.size
end
end
section
theorem Zut (c:List UInt8):(getF c).1.length<=262144:=by
 unfold getF;split
 ·simp
 ·split
  ·simp
  ·split
   ·simp
   ·split
    ·simp
    ·rename_i h _ _
     simp only[Ycc];omega
theorem Zjp:∀ (f:Nat) (c:List UInt8) (acc:List (List UInt8)),(∀ x∈acc,x.length<=262144)->∀ x∈(Zc4 f c acc).1,x.length<=262144
 | 0,c,acc,h=>by simpa[Zc4]using h
 | f+1,c,acc,h=>by
  simp only[Zc4];split
  ·exact h
  ·split
   ·simp
   ·refine Zjp f _ _ λx hx=>?_
    rcases Ybj.1 hx with hx|hx
    ·exact h x hx
    ·rw[Ybi.1 hx];exact Zut c
theorem Zmk (c:List UInt8):∀ x∈(allF c).1,x.length<=262144:=Zjp _ _ _ (by simp)
theorem Zks:∀ (f:Nat) (c:List UInt8) (acc:List (List UInt8)),(Zc4 f c acc).1.length<=acc.length+f
 | 0,c,acc=>by simp[Zc4]
 | f+1,c,acc=>by
  simp only[Zc4];split
  ·simp
  ·split
   ·simp
   ·have:=Zks f (c.drop (getF c).2.1) (acc++[(getF c).1])
    simp only[Yaq,Yae]at this;omega
theorem Zpj (c:List UInt8):(allF c).1.length<=c.length:=by
 have:=Zks c.length c []
 simpa[allF]using this
theorem Zc3 (s:Rd) (n:Int):(Zbd s n).1.length<=s.bs.length/\(Zbd s n).2.bs=s.bs:=by
 unfold Zbd;split
 ·simp
 ·split
  ·simp
  ·exact⟨by simp only[Ycc,Yas];omega,rfl⟩
theorem Zkw (s:Rd) (m:Int):(rInt s m).2.bs=s.bs:=by
 unfold rInt;split
 ·rfl
 ·split
  ·rfl
  ·split<;>rfl
theorem Zdo (s:Rd) {m:Int} (h:0<=m):0<=(rInt s m).1/\(rInt s m).1<=m:=by
 unfold rInt;split
 ·exact⟨by simp,by simpa using h⟩
 ·split
  ·exact⟨by simp,by simpa using h⟩
  ·split
   ·exact⟨by simp,by simpa using h⟩
   ·rename_i h2
    simp only;omega
theorem Zm2 (s:Rd):Zbt s<=s.bs.length:=by
 unfold Zbt;split<;>omega
theorem Zje {l:List Nm} {i:Nat} (h:Zc7 l i=none):∀ {j:Nat},i<=j->Zc7 l j=none
 | 0,hj=>by obtain rfl:i=0:=by omega
            exact h
 | j+1,hj=>by
  rcases Yab i (j+1)with h1|h1
  ·simp only[Zc7]
   rw[Zje h (show i<=j by omega)]
  ·obtain rfl:i=j+1:=by omega
   exact h
theorem Zhd {l:List Nm} {d i:Nat} (h:Zbn l d i=none):∀ {j:Nat},i<=j->Zbn l d j=none
 | 0,hj=>by obtain rfl:i=0:=by omega
            exact h
 | j+1,hj=>by
  rcases Yab i (j+1)with h1|h1
  ·simp only[Zbn]
   rw[Zhd h (show i<=j by omega)]
  ·obtain rfl:i=j+1:=by omega
   exact h
theorem Zhx {l:List Nm}:∀ {i:Nat} {D:List (Nm×Nm)},Zc7 l i=some D->D.length=i
 | 0,D,h=>by simp[Zc7]at h;subst h;rfl
 | i+1,D,h=>by
  simp only[Zc7]at h;split at h
  ·cases h
  ·rename_i D0 h0
   split at h
   ·cases h
   ·cases h
    rw[Yaq,Zhx h0];rfl
theorem Zg7 {l:List Nm} {d:Nat}:∀ {i:Nat} {T:List (Int×List Pst)},Zbn l d i=some T->T.length=i
 | 0,T,h=>by simp[Zbn]at h;subst h;rfl
 | i+1,T,h=>by
  simp only[Zbn]at h;split at h
  ·cases h
  ·rename_i T0 h0
   split at h
   ·cases h
   ·cases h
    rw[Yaq,Zg7 h0];rfl
theorem Zgp (f:Nm):(docG f).1.1.length<=f.length/\(docG f).1.2.length<=f.length:=by
 have h1:=Zc3 (rInt ⟨f,0,0⟩ 32).2 (rInt ⟨f,0,0⟩ 32).1;rw[Zkw]at h1;have h2:=(Zc3 (Zek ⟨f,0,0⟩ 32).2 (Zbt (Zek ⟨f,0,0⟩ 32).2)).1;have h3:(Zek ⟨f,0,0⟩ 32).2.bs=f:=h1.2;rw[h3]at h2;exact⟨h1.1,h2⟩
theorem Zla {l:List Nm} (hl:∀ x∈l,x.length<=262144):∀ {i:Nat} {D:List (Nm×Nm)},Zc7 l i=some D->∀ p∈D,p.1.length<=262144/\p.2.length<=262144
 | 0,D,h=>by simp[Zc7]at h;subst h;simp
 | i+1,D,h=>by
  simp only[Zc7]at h;split at h
  ·cases h
  ·rename_i D0 h0
   split at h
   ·cases h
   ·cases h
    intro p hp;rcases Ybj.1 hp with hp|hp
    ·exact Zla hl h0 p hp
    ·rw[Ybi.1 hp]
     have h1:=Zgp (l.getD (1+i) []);have h2:(l.getD (1+i) []).length<=262144:=by
      rw[Yaw];cases hx:l[1+i]? with
      | none=>simp
      | some x=>exact hl x (Ybz hx)
     omega
theorem Zjm {l:List Nm} {d:Nat}:∀ {i:Nat} {T:List (Int×List Pst)},Zbn l d i=some T->∀ x∈T,x.2.length<=4096
 | 0,T,h=>by simp[Zbn]at h;subst h;simp
 | i+1,T,h=>by
  simp only[Zbn]at h;split at h
  ·cases h
  ·rename_i T0 h0
   split at h
   ·cases h
   ·cases h
    intro x hx;rcases Ybj.1 hx with hx|hx
    ·exact Zjm h0 x hx
    ·rw[Ybi.1 hx]
     exact Zm6 _
theorem Ziw (T:List (Int×List Pst)) (x:Int×List Pst):Zfi (T++[x])=x.1:=by
 unfold Zfi;rw[Yaf (by simp),Yaw,Yaq,Yae,Ybk,Ybc (Yar _),Ybq];rfl
end
section
open Go.RowKit Go.Maps Go.WideMaps Go.Sort
theorem Zlp {w:World} {base:Nat} {v:Value} {st:List (Nat×Nat)} (h:w.ownsRow base 201 2 v st.length (st.flatMap stV)) {i:Nat} {x:Nat×Nat} (hx:st[i]?=some x):
  ∃ ad c,v=.slice (some ad) st.length c/\st.length<=c/\w.cell? (ad.add (i*2))=some (.int .i64 x.1)/\w.cell? ⟨(ad.add (i*2)).block,(ad.add (i*2)).off+1,none⟩=some (.int .i64 x.2):=by
 have hp:=(Ybb.1 hx).1;have hh:=h.2;rcases hh with⟨h1,h2⟩|⟨g,cap,cur,rfl,h1,h2,h3,h4,h5,h6⟩
 ·omega
 ·refine⟨⟨g,0,none⟩,cap,rfl,h3,?_,?_⟩
  ·rw[Zaz]
   have:=h.cells (g:=g) rfl (i*2) (.int .i64 x.1) (Zjf (f:=stV) (s:=2) (λ_=>rfl) st i 0 x _ hx rfl)
   rw[Zaz]at this;exact this
  ·rw[Zaz]
   have:=h.cells (g:=g) rfl (i*2+1) (.int .i64 x.2) (Zjf (f:=stV) (s:=2) (λ_=>rfl) st i 1 x _ hx rfl)
   rw[Zaz]at this;exact this
theorem Zu8 (w:World) (os:Array Obj):Below w.heap.size w (grow w os):=⟨rfl,rfl,rfl,by simp,λk hk=>heap_grow_old w os hk⟩
theorem Zv3 (W:World) (r pb sb:Nat) (s x:Nat×Nat) (ad:Addr) (n c i:Nat) (hi:i<n)
  (h1:W.cell? ⟨pb,0,none⟩=some (at0 r)) (h2:W.cell? ⟨r,4,none⟩=some (.slice (some ad) n c)) (h3:W.cell? ⟨sb,0,none⟩=some (.int .i64 s.1)) (h4:W.cell? ⟨sb,1,none⟩=some (.int .i64 s.2))
  (h5:W.cell? (ad.add (i*2))=some (.int .i64 x.1)) (h6:W.cell? ⟨(ad.add (i*2)).block,(ad.add (i*2)).off+1,none⟩=some (.int .i64 x.2)):
  Calls Tryz.prog 188 #[.int .i64 i,.pointer (some ⟨pb,0,none⟩),.pointer (some ⟨sb,0,none⟩)] W λe w'=>e=.returned (.bool (decide (¬ gtS x s)))/\∃ q os,w'=grow (W.drewN q) os:=by
 have mixed:Tryz.prog.follows .mixedOrders=true:=by kernel_rfl
 obtain⟨s1,s2⟩:=s;obtain⟨x1,x2⟩:=x;unfold at0 at h1;have k1:=λn os=>cell_grown (Ycb W _ h1) h1 n os;have k2:=λn os=>cell_grown (Ycb W _ h2) h2 n os;have k3:=λn os=>cell_grown (Ycb W _ h3) h3 n os;have k4:=λn os=>cell_grown (Ycb W _ h4) h4 n os;have k5:=λn os=>cell_grown (Ycb W _ h5) h5 n os;have k6:=λn os=>cell_grown (Ycb W _ h6) h6 n os;have hb:=Zfk (x1,x2) (s1,s2);have hf:=Qan (x1,x2) (s1,s2);have hd:=λ(W:World)=>Zil W (x1,x2) (s1,s2);obtain⟨d,hdd⟩:=Ze (dwn (x1,x2) (s1,s2));rw[<- hdd]at hb hf hd;have HDD:=Zh hdd;obtain⟨G,hG⟩:=Ze (decide (¬ gtS (x1,x2) (s1,s2)));rw[<- hG];have hg:decide (d ≥ 0)=G:=by rw[hG];exact decide_eq_decide.2 ⟨λh e=>by have:=hb.2 e;omega,λh=>by
  rcases Int.lt_or_le d 0 with h1|h1
  ·exact absurd (hb.1 h1) h
  ·exact h1⟩
 have HG:=Zh hg;have HD:=Zh hd;have hiz:(0:Int)<=(i:Int):=by omega
 have hin:(i:Int)<(n:Int):=by omega
 clear h1 h2 h3 h4 h5 h6 hb hd hdd hG hg hf;go_enter Tryz.func188,Tryz.ntmps188;go_wp2_with fail;go_quiet_grown ((go_at_call 115;exact Calls.grown_of (HD.out _)));clear k1 k2 k3 k4 k5 k6;have hg:=HG.out;go_wp2;go_ret;refine⟨?_,_,_,rfl⟩;simp only[Ending.returned.injEq,Value.bool.injEq];first|exact hg|(rw[<- hg];rfl)
theorem Zg3 (w0 w:World) (r b:Nat) {at_ before behind:List Int} {st:List (Nat×Nat)} (hR:Row w0 w r b at_ before behind st) (hs:st.Pairwise gtS) (s:Nat×Nat):
  Calls Tryz.prog 157 #[at0 r,.agg #[.int .i64 s.1,.int .i64 s.2]] w λe w'=>e=.returned (.int .i64 (idxS st s:Nat))/\Below w.heap.size w w':=by
 obtain⟨va,vb,vc,vs,hR⟩:=hR;have hRW:=hR;have b2:Below w.heap.size w ((w.alloc (.cells #[at0 r] 126)).alloc (.cells #[.int .i64 s.1,.int .i64 s.2] 201)):=((Ybm _ w).alloc (Yar _) _).alloc (by simp) _;obtain⟨W,hW⟩:=Ze ((w.alloc (.cells #[at0 r] 126)).alloc (.cells #[.int .i64 s.1,.int .i64 s.2] 201));have B1:Blk W w.heap.size 126 #[at0 r]:=by rw[hW];exact(Blk.new w _ _).alloc _
 have B2:Blk W (w.heap.size+1) 201 #[.int .i64 s.1,.int .i64 s.2]:=by
  rw[hW];have:=Blk.new (w.alloc (.cells #[at0 r] 126)) 201 #[.int .i64 s.1,.int .i64 s.2]
  simpa using this
 rw[<- hW]at b2;have HW:=Zh hW;have HB2:=Zh b2;have hR1:=hR.then b2
 obtain⟨A,c,rfl⟩:=Zac hR1.stR;have g1:=B1.cell 0;have g2:=B2.cell 0;have g3:=B2.cell 1;have g4:W.cell? ⟨r,4,none⟩=some (.slice A st.length c):=by have:=hR1.blk.cell 4;simpa using this
 simp only[lz0,lz1,lz2]at g1 g2 g3;have eg:∀ args w,(callFunc 188 args).run Tryz.prog w=.ok (.enter 188 args) w:=enters_of Tryz.func188 (by kernel_rfl) rfl;have hS:=Any.sort_Search Tryz.search 188 #[.pointer (some ⟨w.heap.size,0,none⟩),.pointer (some ⟨w.heap.size+1,0,none⟩)] st.length (λi=>decide (¬ gtS (st.getD i (0,0)) s)) W eg (by have:=hR1.small.2.2.2;omega)
  (λm os i hi=>by
   have hx:st[i]?=some (st.getD i (0,0)):=by rw[Yaw,Yax hi];rfl
   obtain⟨ad,c',e1,_,e2,e3⟩:=Zlp hR1.stR hx;simp only[Value.slice.injEq,true_and]at e1;obtain⟨rfl,rfl⟩:=e1;have key:∀ {a:Addr} {v:Value},W.cell? a=some v->(grow (W.drewN m) os).cell? a=some v:=λh=>cell_grown (Ycb W _ h) h m os;exact Zv3 _ r w.heap.size (w.heap.size+1) s _ ad st.length c i hi (key g1) (key g4) (key g2) (key g3) (key e2) (key e3))
  (λa b hab hbn hp=>by
   have hx:st[a]?=some (st.getD a (0,0)):=by rw[Yaw,Yax (by omega)];rfl
   have hy:st[b]?=some (st.getD b (0,0)):=by rw[Yaw,Yax hbn];rfl
   have h1:=Zm9 hs s hx;have h2:=Zm9 hs s hy;simp only[decide_eq_true_eq]at hp ⊢;exact λe=>hp (h1.2 (by have:=h2.1 e;omega)))
 change Calls Tryz.prog 187 _ _ _ at hS;have hcount:((List.range st.length).countP λi=>!(λi=>decide (¬ gtS (st.getD i (0,0)) s)) i)=idxS st s:=by
  unfold idxS;have e:st=(List.range st.length).map λi=>st.getD i (0,0):=by
   apply List.ext_getElem
   ·simp
   ·intro i h1 h2
    simp[Yaw,h1]
  conv=>rhs;rw[e]
  rw[List.countP_map];congr 1;funext i;simp
 rw[hcount]at hS;have HS:=Zh hS;obtain⟨n,hn⟩:=Ze st.length;rw[<- hn]at g4 HS;obtain⟨I,hI⟩:=Ze (idxS st s);rw[<- hI]at HS;rw[<- hI];rw[hW]at g1 g4;clear hR hRW hR1 hS hcount hn hI hs B1 B2 hW b2 g2 g3 eg;unfold at0 at g1 g4 HW ⊢;go_enter Tryz.func157,Tryz.ntmps157;go_wp2_with (go_at_call 187;rw[<- HW.out];refine HS.out.mono ?_;rintro e w' ⟨rfl,q,os,rfl⟩);go_ret;exact⟨rfl,Zaa (Zaf HB2.out q) (Zu8 (W.drewN q) os) HB2.out.size⟩
end
section
open Go.RowKit Go.Maps Go.WideMaps
theorem Zdd {P:Program} (w:World) (dT sT ty elem:TypeId) (i:TypeInfo) (k:Nat) (b o dLen dCap:Nat) (a:Addr) (sLen sCap m:Nat) (cs:List Value)
  (hu:P.underlying dT=some (.slice elem)) (hi:P.info? elem=some i) (hs:i.size=k) (hm:Nat.min sLen dLen=m) (hn:cs.length=m*k)
  (hsrc:∀ j v,cs[j]?=some v->w.cell? (a.add j)=some v) (hc:∀ j,j<cs.length->(w.cell? ⟨b,o+j,none⟩).isSome=true) (hf:∀ j,j<cs.length->w.frozen? ⟨b,o+j,none⟩=false) (h1:∀ v∈cs,v.oneCell'=true):
  (Builtin.copy_ #[dT,sT] ty #[.slice (some ⟨b,o,none⟩) dLen dCap,.slice (some a) sLen sCap]).run P w=.ok (goInt m) (w.setCells b o cs):=by
 have hl:=run_loadCells_list (P:=P) w a cs hsrc;have hst:=run_storeCells_cells (P:=P) b o cs 0 w (by simpa using hc) (by simpa using hf) h1;simp[Builtin.copy_,run_underlying hu,Builtin.lenOf,Builtin.firstCells,sizeOf,typeInfo,hi,hs,hm,<- hn,hl,hst]
theorem Zlf {P:Program} (w:World) (t e ty:TypeId) (z:Value) (ht:P.underlying t=some (.slice e)) (hv:∀ w,(zeroValue e).run P w=.ok z w) (b o n c:Nat) (hn:0<n) (h1:∀ v∈(Builtin.zeroCells z.cells n).toList,v.oneCell'=true)
  (hc:∀ j,j<n*z.cells.size->(w.cell? ⟨b,o+j,none⟩).isSome=true) (hf:∀ j,j<n*z.cells.size->w.frozen? ⟨b,o+j,none⟩=false):
  (Builtin.clear_ #[t] ty #[.slice (some ⟨b,o,none⟩) n c]).run P w=.ok (.tuple #[]) (w.setCells b o (Builtin.zeroCells z.cells n).toList):=by
 have hl:(Builtin.zeroCells z.cells n).toList.length=n*z.cells.size:=by simp[Builtin.zeroCells]
 have hst:=run_storeCells_cells (P:=P) b o (Builtin.zeroCells z.cells n).toList 0 w (by rw[hl];simpa using hc) (by rw[hl];simpa using hf) h1;simp only[Nat.add_zero]at hst;obtain⟨m,rfl⟩:∃ m,n=m+1:=⟨n-1,by omega⟩
 simp[Builtin.clear_,run_underlying ht,hv,hst]
def seg (l:List Value) (o:Nat) (vs:List Value):List Value:=l.take o++vs++l.drop (o+vs.length)
theorem Ziv {l:List Value} {o:Nat} {vs:List Value} (h:o+vs.length<=l.length):(seg l o vs).length=l.length:=by
 unfold seg;simp;omega
theorem Zck {g:Nat} {t:TypeId}:∀ (vs:List Value) (o:Nat) (w:World) (cs:Array Value),Blk w g t cs->o+vs.length<=cs.size->Blk (w.setCells g o vs) g t (seg cs.toList o vs).toArray
 | [],o,w,cs,h,hl=>by
  have:(seg cs.toList o []).toArray=cs:=by unfold seg;simp
  rw[this];exact h
 | v :: r,o,w,cs,h,hl=>by
  simp only[Yah]at hl;have ih:=Zck r (o+1) (w.setCell ⟨g,o,none⟩ v) (cs.setIfInBounds o v) (h.set_ o v) (by simp;omega);rw[World.setCells];have e:seg (cs.setIfInBounds o v).toList (o+1) r=seg cs.toList o (v :: r):=by
   unfold seg;have:=list_seg_step cs.toList o v r (by simp;omega)
   simpa using this
  rw[<- e];exact ih
theorem Zdi (g:Nat):∀ (vs:List Value) (o:Nat) (w:World) (k:Nat),k≠g->(w.setCells g o vs).heap[k]?=w.heap[k]?
 | [],_,_,_,_=>rfl
 | v :: r,o,w,k,h=>by rw[World.setCells,Zdi g r _ _ k h,Zad _ _ _ h]
theorem Zfm (g:Nat):∀ (vs:List Value) (o:Nat) (w:World),(w.setCells g o vs).os=w.os/\(w.setCells g o vs).tape=w.tape/\(w.setCells g o vs).output=w.output/\(w.setCells g o vs).heap.size=w.heap.size
 | [],_,_=>⟨rfl,rfl,rfl,rfl⟩
 | v :: r,o,w=>by
  rw[World.setCells];obtain⟨h1,h2,h3,h4⟩:=Zfm g r (o+1) (w.setCell ⟨g,o,none⟩ v);exact⟨h1,h2,h3,by rw[h4,Zai]⟩
theorem Zdu {w w':World} {g:Nat} (h:w.grownBy w' (some g)) (o:Nat) (vs:List Value):w.grownBy (w'.setCells g o vs) (some g):=by
 obtain⟨h1,h2,h3,h4⟩:=Zfm g vs o w';exact⟨h1.trans h.os,h2.trans h.tape,h3.trans h.output,by rw[h4];exact h.size,λk hk hne=>by rw[Zdi g vs o w' k (λe=>hne (by rw[e]))];exact h.block k hk hne⟩
theorem Zob {w w':World} {row:Option Nat} (h:w.grownBy w' row) {g:Nat} (hg:w.heap.size<=g) (o:Nat) (vs:List Value):w.grownBy (w'.setCells g o vs) row:=by
 obtain⟨h1,h2,h3,h4⟩:=Zfm g vs o w';exact⟨h1.trans h.os,h2.trans h.tape,h3.trans h.output,by rw[h4];exact h.size,λk hk hne=>by rw[Zdi g vs o w' k (by omega)];exact h.block k hk hne⟩
theorem Zgq {w w':World} {row:Option Nat} (h:w.grownBy w' row):w.grownBy w'.drew row:=⟨h.os,h.tape,h.output,h.size,h.block⟩
theorem Zgo (w:World) (row:Option Nat):w.grownBy w row:=⟨rfl,rfl,rfl,Yar _,λ_ _ _=>rfl⟩
theorem Zrv {w w':World} {row:Option Nat} (h:w.grownBy w' row) (o:Obj):w.grownBy (w'.alloc o) row:=
 ⟨h.os,h.tape,h.output,by have:=h.size;simp;omega,λk hk hne=>by rw[Ybn w' o k (by have:=h.size;omega)];exact h.block k hk hne⟩
theorem Ze0 {w:World} {base g n cap:Nat} {e:TypeId} {size:Nat} {cs:Array Value} {xs:List Value} (h:Blk w g e cs) (hb:base<=g) (hn:n<=cap) (hc:cap<=maxLen) (hs:cs.size=cap*size) (hx:cs.toList.take (n*size)=xs):
  w.ownsRow base e size (.slice (some ⟨g,0,none⟩) n cap) n xs:=by
 have hle:n*size<=cap*size:=Yak _ hn;refine⟨?_,.inr ⟨g,cap,cs,rfl,hb,h,hn,hc,hs,hx⟩⟩;rw[<- hx];simp;omega
theorem Zd9 {w:World} {g:Nat} {t:TypeId} {cs:Array Value} (h:Blk w g t cs) {j:Nat} (hj:j<cs.size):(w.cell? ⟨g,j,none⟩).isSome=true:=by
 rw[h.cell j,Array.getElem?_eq_getElem hj];rfl
theorem Zia:(Tryz.prog.info? 201).map (λi=>(i.zero,i.size,i.bytes))=some (some (.agg #[.int .i64 0,.int .i64 0]),2,16):=by kernel_rfl
theorem Qbj (w:World):(zeroValue 201).run Tryz.prog w=.ok (.agg #[.int .i64 0,.int .i64 0]) w:=by kernel_rfl
theorem Zhk (st:List (Nat×Nat)):∀ u∈st.flatMap stV,u.oneCell'=true:=by
 intro u hu;obtain⟨s,_,hs⟩:=List.mem_flatMap.1 hu;simp[stV]at hs;rcases hs with rfl|rfl<;>rfl
theorem Qd2 (st:List (Nat×Nat)):(st.flatMap stV).length=st.length*2:=by
 induction st with
 | nil=>rfl
 | cons s r ih=>simp[stV,ih];omega
theorem Zjt {P:Program} (w:World) {ops:Array Oper} {rest:List Oper} {o:Oper} {a:Act} {Q:Exit->Act->World->Prop} (hgd:o.guard=none) (d:Operand) (t:TypeId)
  (ho:o.op=.call { callee:=.builtin .clear,args:=#[d],argTypes:=#[t] }) (v:Value) (hd:a.eval d=v) {v':Value} {w':World}
  (hr:(Builtin.clear_ #[t] o.type #[v]).run P w=.ok v' w') (h:wpList P ops Q rest (a.put o.dst v') w'):wpList P ops Q (o :: rest) a w:=
 wpList_plain hgd λK hK=>by
  unfold Oper.wp execOp;simp only[ho,resolve,invoke,builtin,Sem.run_bind,Sem.run_pure,Result.andThen_ok,List.map_toArray,Ya2,List.map_nil,hd,hr];exact hK _ _ h
theorem Qdf (w:World) (base:Nat) (v:Value) (n:Nat) (xs:List Value) (hown:w.ownsRow base 201 2 v n xs) (hone:∀ u∈xs,u.oneCell'=true) (i:Nat) (hi:i<n) (hn:n<=1048576):
  Calls Tryz.prog 158 #[v,.int .i64 i,.int .i64 ((i:Int)+1)] w λe w'=>∃ v',e=.returned v'/\w'.ownsRow base 201 2 v' (n-1) (xs.take (i*2)++xs.drop (i*2+2))/\w.grownBy w' v.ownBlock/\v'.ownBlock=v.ownBlock:=by
 obtain⟨i0,hi0,hz0,hz1,hz2⟩:=info_parts Zia;have hxl:=hown.1;rcases hown.2 with⟨rfl,h0⟩|⟨g,cap,cur,rfl,hb,hblk,hnc,hcm,hcs,hx⟩
 ·omega
 have HB:Blk w g 201 cur:=hblk;unfold maxLen at hcm;obtain⟨m,rfl⟩:∃ m,n=m+1:=⟨n-1,by omega⟩
 rw[show m+1-1=m by omega];obtain⟨news,hnw⟩:=Ze (xs.drop (i*2+2));rw[<- hnw];have hnl:news.length=(m-i)*2:=by rw[hnw,Yas,hxl];omega
 have hn1:∀ u∈news,u.oneCell'=true:=λu hu=>hone u (Ycf (hnw ▸ hu));have hcell:∀ (j:Nat) (u:Value),xs[j]?=some u->w.drew.cell? ⟨g,j,none⟩=some u:=λj u hu=>by
  have:(w.drew).cell? ⟨g,j,none⟩=cur[j]?:=Blk.cell (w:=w.drew) hblk j;rw[this,<- Array.getElem?_toList];rw[<- hx,Yci]at hu;split at hu
  ·exact hu
  ·cases hu
 obtain⟨A,hA,hnews⟩:∃ A:Addr,(if cap=i+1 then some (⟨g,0,none⟩:Addr) else some ⟨g,(i+1)*2,none⟩)=some A/\Hid (∀ j u,news[j]?=some u->w.drew.cell? (A.add j)=some u):=by
  by_cases h:cap=i+1
  ·refine⟨⟨g,0,none⟩,by simp[h],λj u hu=>?_⟩
   have:=(Ybb.1 hu).1
   omega
  ·refine⟨⟨g,(i+1)*2,none⟩,by simp[h],λj u hu=>?_⟩
   rw[Addr.add_lit];refine hcell _ u ?_;rw[hnw,Ybv]at hu;rw[show(i+1)*2+j=i*2+2+j by omega];exact hu
 have s1:Hid (news.length=(m-i)*2):=hnl;have s2:Hid (∀ u∈news,u.oneCell'=true):=hn1;have s3:Hid (∀ j,j<news.length->(w.drew.cell? ⟨g,0+i*2+j,none⟩).isSome=true/\w.drew.frozen? ⟨g,0+i*2+j,none⟩=false):=λj hj=>by
  refine⟨Zd9 (w:=w.drew) hblk (by omega),Blk.frozen (w:=w.drew) hblk _⟩
 have hB1:Blk (w.drew.setCells g (i*2) news) g 201 (seg cur.toList (i*2) news).toArray:=Zck news _ w.drew cur hblk (by omega);have hsl:(seg cur.toList (i*2) news).length=cap*2:=by rw[Ziv (by simp;omega)];simp[hcs]
 obtain⟨W1,hW1⟩:=Ze (w.drew.setCells g (i*2) news);rw[<- hW1]at hB1;have hzc:(Value.agg #[.int .i64 0,.int .i64 0]).cells.size=2:=rfl;have hzl:(Builtin.zeroCells (Value.agg #[.int .i64 0,.int .i64 0]).cells 1).toList=[.int .i64 0,.int .i64 0]:=by kernel_rfl
 have hclr:∀ ty c,(Builtin.clear_ #[128] ty #[.slice (some ⟨g,m*2,none⟩) 1 c]).run Tryz.prog W1=.ok (.tuple #[]) (W1.setCells g (m*2) [.int .i64 0,.int .i64 0]):=λty c=>by
  have h:=Zlf (P:=Tryz.prog) W1 128 201 ty _ Tryz.underlying128 Qbj g (m*2) 1 c (by omega) (by rw[hzl];intro u hu;simp at hu;subst hu;rfl)
   (λj hj=>Zd9 hB1 (by simp only[Yco,hsl];rw[hzc]at hj;omega)) (λj hj=>hB1.frozen _)
  rw[hzl]at h;exact h
 have hB2:Blk (W1.setCells g (m*2) [.int .i64 0,.int .i64 0]) g 201 (seg (seg cur.toList (i*2) news) (m*2) [.int .i64 0,.int .i64 0]).toArray:=
  Zck _ _ W1 _ hB1 (by simp only[Yco,hsl];simp;omega)
 have hG:w.grownBy (W1.setCells g (m*2) [.int .i64 0,.int .i64 0]) (some g):=by
  rw[hW1];exact Zdu (Zdu (Zgq (Zgo w _)) _ _) _ _
 have hfin:(W1.setCells g (m*2) [.int .i64 0,.int .i64 0]).ownsRow base 201 2 (.slice (some ⟨g,0,none⟩) m cap) m (xs.take (i*2)++news):=by
  refine Ze0 hB2 hb (by omega) (by unfold maxLen;omega) ?_ ?_
  ·simp only[Yco]
   rw[Ziv (by rw[hsl];simp;omega),hsl]
  ·have hxt:xs.take (i*2)=cur.toList.take (i*2):=by rw[<- hx,List.take_take];congr 1;omega
   have hcl:cur.toList.length=cap*2:=by simp[hcs]
   rw[hxt];unfold seg;have e1:(cur.toList.take (i*2)).length=i*2:=by simp;omega
   rw[Ya8 (by simp;omega),Ya8 (by simp;omega)];rw[List.take_take,Nat.min_self,Ya8 (by simp;omega)];rw[Yav (by simp;omega)]
 have HF:=Zh hfin;have HG:=Zh hG;have HC:=Zh hclr;have HW:=Zh hW1;have hmi:i+(m-i)=m:=by omega
 have hmi2:m+1-(i+1)=m-i:=by omega
 have hi0':(0:Int)<=(i:Int):=by omega
 have hp0:(0:Int)<=(i:Int)+1:=by omega
 have hp1:(i:Int)+1<=(m:Int)+1:=by omega
 have hp2:((i:Int)+1).toNat=i+1:=by omega
 have hin:i<=cap:=by omega
 have hne:((i:Int)==(i:Int)+1)=false:=by simp;omega
 clear hblk hown hx hcell hnw hnl hn1 hB1 hB2 hG hfin hclr hW1 hxl hone hcs hsl hzc hzl;go_enter Tryz.func158,Tryz.ntmps158;go_wp2_with fail;go_region_law (refine step_append_room rfl (.tmp 22) (.tmp 25) 128 rfl 201 i0 2 Tryz.underlying128 hi0 hz1 g 0 i cap (by simp[Act.eval,Act.put]) A (m-i) (cap-(i+1)) news (by simp[Act.eval,Act.put,hmi2]) s1.out hnews.out s2.out (by omega) s3.out ?_);rw[<- HW.out];clear HW hA s1 s2 s3 hnews;go_wp2_with (refine Zjt _ rfl (.tmp 31) 128 rfl _ rfl (HC.out _ _) ?_);go_ret;exact⟨_,rfl,HF.out,HG.out,rfl⟩
end
section
open Go.RowKit Go.Maps Go.WideMaps Go.Sort
theorem Qdz:SWO (ltOf dwn) where
 irrefl:=λx=>by
  simp only[ltOf,decide_eq_false_iff_not];exact λh=>Znj x ((Zfk x x).1 h)
 trans:=λx y z h1 h2=>by
  simp only[ltOf,decide_eq_true_eq]at *;exact(Zfk x z).2 (Zk6 ((Zfk x y).1 h1) ((Zfk y z).1 h2))
 ntrans:=λx y z h1 h2=>by
  simp only[ltOf,decide_eq_false_iff_not]at *;intro h3;have h3:=(Zfk x z).1 h3;have h1:¬ gtS x y:=λe=>h1 ((Zfk x y).2 e);have h2:¬ gtS y z:=λe=>h2 ((Zfk y z).2 e);unfold gtS at *;omega
theorem Ztq (st:List (Nat×Nat)) {t:Nat} (ht:t<st.length*2):(st.flatMap stV)[t]?=some ((stV st.toArray[t/2]!)[t % 2]!):=by
 have hi:t/2<st.length:=by omega
 have hx:st[t/2]?=some st[t/2]:=Yax hi;have e1:st.toArray[t/2]! = st[t/2]:=by rw[getElem!_pos _ _ (by simpa using hi)];simp
 rw[e1];have h:=λ(u:Value) (hu:(stV st[t/2])[t % 2]?=some u)=>Zjf (f:=stV) (s:=2) (λ_=>rfl) st (t/2) (t % 2) st[t/2] u hx hu;rw[show t/2*2+t % 2=t by omega]at h;refine h _ ?_;rcases Nat.mod_two_eq_zero_or_one t with e|e<;>rw[e]<;>rfl
theorem Zx3 (st:List (Nat×Nat)):(flatK stV 2 st.toArray).size=st.length*2:=by simp
def Qc7 (w:World) (base:Nat) (v:Value) (st:List (Nat×Nat)) (e:Ending) (w':World):Prop:=
 e=.returned (.tuple #[])/\∃ st':List (Nat×Nat),st'.Perm st/\(∀ (i j:Nat) (x y:Nat×Nat),i<j->st'[i]?=some x->st'[j]?=some y->¬ gtS y x)/\w'.ownsRow base 201 2 v st'.length (st'.flatMap stV)/\w.grownBy w' v.ownBlock
theorem Zz9 (w:World) (base:Nat) (v:Value) (st:List (Nat×Nat)) (hown:w.ownsRow base 201 2 v st.length (st.flatMap stV)) (hsm:st.length<=1048576):
  Calls Tryz.prog 114 #[v,.func (.func 115) #[] #[]] w (Qc7 w base v st):=by
 rcases hown.2 with⟨rfl,h0⟩|⟨g,cap,cur,rfl,hb,hblk,hnc,hcm,hcs,hx⟩
 ·have h:=AnyF.slices_SortFunc_none Tryz.sortStep none 0 (.func (.func 115) #[] #[]) w
  have e:st=[]:=Ya0 h0;subst e;refine Calls.mono (f:=114) h ?_;rintro e w' ⟨rfl,rfl⟩;exact⟨rfl,[],.refl _,λi j x y _ h=>by simp at h,hown,Zgo _ _⟩
 ·have eg:∀ args w,(callFunc 115 args).run Tryz.prog w=.ok (.enter 115 args) w:=enters_of Tryz.func115 (by kernel_rfl) rfl
  have hH:HoldsK stV 2 w g 0 st.toArray:=λt ht=>by
   rw[Zx3]at ht;have h1:=Ztq st ht;have h2:=hown.cells (g:=g) rfl t _ h1;rw[Zaz]at h2;refine⟨?_,Blk.frozen hblk _⟩;rw[Ya4,h2,get_flatK _ _ _ _ (by simpa using ht)];rfl
  have h:=AnyQ.slices_SortFunc Tryz.sortStep 2 Tryz.isAgg201 Tryz.sizeOf201 stV (λ_=>rfl) (λx u hu=>by simp[stV]at hu;rcases hu with rfl|rfl<;>rfl) dwn Qdz 115 #[] g 0 cap st.toArray w eg (λm os dk _ x y=>Zil _ x y) hH (Blk.lt hblk) (by simp;omega);simp only[Yco]at h;refine Calls.mono (f:=114) h ?_;rintro e w' ⟨rfl,d',n,os,hp,hs,rfl⟩;have hsz:d'.size=st.length:=by simpa using hp.1
  have hperm:d'.toList.Perm st:=by
   have:=hp.2.2
   have e:d'.toList.take st.length=d'.toList:=Yav (by simp[hsz]);simp[hsz]at this;rw[e]at this;exact this
  have hB:Blk (sortWorldK stV 2 w g 0 n d' os) g 201 (putCells id 0 (flatK stV 2 d') cur):=by
   unfold sortWorldK putRowK putRow;unfold Blk;rw[heap_grow_old _ _ (by have:=Blk.lt hblk;simpa[mapBlock]using this)];simp[mapBlock,Array.getElem?_modify,hblk,onCells]
  have hd:d'=d'.toList.toArray:=by simp
  have hl:d'.toList.length=st.length:=by simpa using hsz
  refine⟨rfl,d'.toList,hperm,?_,?_,?_⟩
  ·intro i j x y hij hxi hyj hg
   have hj:=(Ybb.1 hyj)
   have hi:=(Ybb.1 hxi)
   have:=hs i j (Ybd _) hij (by have:=hj.1;simp at this;simp;omega)
   rw[getElem!_pos d' j (by simpa using hj.1),getElem!_pos d' i (by simpa using hi.1)]at this;have e1:d'[j]'(by simpa using hj.1)=y:=by have:=hj.2;simpa using this
   have e2:d'[i]'(by simpa using hi.1)=x:=by have:=hi.2;simpa using this
   rw[e1,e2]at this;simp only[ltOf,decide_eq_false_iff_not]at this;exact this ((Zfk y x).2 hg)
  ·rw[hl]
   refine Ze0 hB hb hnc hcm (by simp[putCells,hcs]) ?_;apply List.ext_getElem?;intro t;rw[Yci];by_cases ht:t<st.length*2
   ·rw[Yag ht,Ztq _ (by rw[hl];exact ht)]
    have htc:t<cur.size:=by omega
    simp only[putCells,Array.getElem?_toList,Array.getElem?_mapIdx];rw[Array.getElem?_eq_getElem htc];simp only[Option.map_some,Ybd,true_and,Ya4,size_flatK,hsz,ht,if_true,Nat.sub_zero,id,Option.some.injEq];rw[get_flatK _ _ _ _ (by rw[hsz];exact ht),<- hd]
   ·rw[Yaf ht,List.getElem?_eq_none (by rw[Qd2,hl];omega)]
  ·refine⟨rfl,rfl,rfl,by simp[sortWorldK,putRowK],λk hk hne=>?_⟩
   have hne':k≠g:=λe=>hne (by rw[e];rfl);unfold sortWorldK putRowK putRow;rw[heap_grow_old _ _ (by simpa[mapBlock]using hk)];simp[mapBlock,Array.getElem?_modify,Ne.symm hne']
end
section
open Go.RowKit Go.Maps Go.WideMaps
structure IsRV (w:World) (F:Nat->Prop) (b:Nat) (V:Voc) (tv mv:Value) (svs:List Value):Prop where
 blk:Blk w b 30 #[tv,mv]
 trow:w.ownsRow 0 24 1 tv V.tok.length svs
 toks:∀ (i:Nat) (sv:Value) (x:Nm),svs[i]?=some sv->V.tok[i]?=some x->TokIn w F sv x
 mrow:w.ownsRow 0 88 3 mv V.mer.length (V.mer.flatMap Zav)
 fits:∀ m∈V.mer,Zjn m
 fb:F b
 fv:∀ g,tv.ownBlock=some g->F g
 fm:∀ g,mv.ownBlock=some g->F g
 lt:∀ i,F i->i<w.heap.size
theorem IsRV.kept {w w':World} {F:Nat->Prop} {b:Nat} {V:Voc} {tv mv:Value} {svs:List Value} (h:IsRV w F b V tv mv svs) (hb:Below w.heap.size w w'):IsRV w' F b V tv mv svs where
 blk:=h.blk.same (hb.block _ (h.lt _ h.fb))
 trow:=Zab h.trow λg hg=>hb.block g (h.lt g (h.fv g hg))
 toks:=λi sv x h1 h2=>(h.toks i sv x h1 h2).mono (G:=λ_=>False) (Kept.below hb) (λ_=>False.elim) (λ_ hf=>.inl hf)
 mrow:=Zab h.mrow λg hg=>hb.block g (h.lt g (h.fm g hg))
 fits:=h.fits
 fb:=h.fb
 fv:=h.fv
 fm:=h.fm
 lt:=λi hi=>Ya7 (h.lt i hi) hb.size
theorem IsRV.addTok {w w2:World} {F:Nat->Prop} {b:Nat} {V:Voc} {tv tv' mv sv:Value} {svs:List Value} {x:Nm} (h:IsRV w F b V tv mv svs) (hx:TokIn w F sv x)
  (hown:w2.ownsRow 0 24 1 tv' (V.tok.length+1) (svs++[sv])) (hg:w.grownBy w2 tv.ownBlock) (hloc:tv'.ownBlock=tv.ownBlock\/tv'.ownBlock=some w.heap.size):
  IsRV (w2.setCell ⟨b,0,none⟩ tv') (Own F w (w2.setCell ⟨b,0,none⟩ tv')) b ⟨V.tok++[x],V.mer⟩ tv' mv (svs++[sv])/\Kept F w (w2.setCell ⟨b,0,none⟩ tv'):=by
 have hnb:tv.ownBlock≠some b:=Zah h.trow h.blk (by decide);have hblk2:Blk w2 b 30 #[tv,mv]:=h.blk.grown hg (λe=>hnb e.symm);have hsz:(w2.setCell ⟨b,0,none⟩ tv').heap.size=w2.heap.size:=Zai _ _ _;have hs2:=hg.size;have hkp:Kept F w (w2.setCell ⟨b,0,none⟩ tv'):=((Kept.refl F w).grown hg (λg e=>.inl (h.fv g e))).setCell (.inl h.fb) _;have hF:∀ i,Own F w (w2.setCell ⟨b,0,none⟩ tv') i->F i\/w.heap.size<=i:=λi hi=>hi.imp id (·.1);have hcl:svs.length=V.tok.length:=by have:=h.trow.1;simpa using this
 have hold:∀ i,i<w.heap.size->i≠b->tv.ownBlock≠some i->(w2.setCell ⟨b,0,none⟩ tv').heap[i]?=w.heap[i]?:=λi h0 h1 h2=>by
  rw[Zad _ _ _ h1,hg.block i h0 (λe=>h2 e.symm)]
 refine⟨?_,hkp⟩;exact {
  blk:=by have:=hblk2.set_ 0 tv';simpa using this
  trow:=by
   show World.ownsRow _ 0 24 1 _ (V.tok++[x]).length _;rw[Yaq,Yae];exact Zab hown λg e=>Zad _ _ _ λe2=>Zah hown hblk2 (by decide) (by rw[e,e2])
  toks:=λi sv' y h1 h2=>by
   have h2':(V.tok++[x])[i]?=some y:=h2;rcases Yab i V.tok.length with hik|hik
   ·rw[Yba (by omega)]at h1
    rw[Yba hik]at h2';exact(h.toks i sv' y h1 h2').mono hkp (λ_ hf=>hf) hF
   ·have hi':=(Ybb.1 h2').1
    rw[Yaq,Yae]at hi';obtain rfl:i=V.tok.length:=by omega
    rw[Ybc (by omega),hcl,Ybq]at h1;rw[Ybc (Yar _),Ybq]at h2';cases h1
    cases h2'
    exact hx.mono hkp (λ_ hf=>hf) hF
  mrow:=Zab h.mrow λg e=>by
   have hgl:=h.lt g (h.fm g e);exact hold g hgl (λe2=>Zah h.mrow h.blk (by decide) (by rw[e,e2])) (λe2=>Za7 h.trow h.mrow (by decide) g e2 e)
  fits:=h.fits
  fb:=.inl h.fb
  fv:=λg e=>by
   rcases hloc with hl|hl
   ·exact .inl (h.fv g (hl.symm.trans e))
   ·have hlt:=(hown.lt g e).2
    rw[hl]at e;simp at e;exact .inr ⟨by omega,by omega⟩
  fm:=λg e=>.inl (h.fm g e)
  lt:=λi hi=>by
   rcases hi with hi|hi
   ·have:=h.lt i hi;omega
   ·exact hi.2 }
theorem IsRV.addMer {w w2:World} {F:Nat->Prop} {b:Nat} {V:Voc} {tv mv mv':Value} {svs:List Value} {m:Mg} (h:IsRV w F b V tv mv svs) (hm:Zjn m)
  (hown:w2.ownsRow 0 88 3 mv' (V.mer.length+1) (V.mer.flatMap Zav++Zav m)) (hg:w.grownBy w2 mv.ownBlock) (hloc:mv'.ownBlock=mv.ownBlock\/mv'.ownBlock=some w.heap.size):
  IsRV (w2.setCell ⟨b,1,none⟩ mv') (Own F w (w2.setCell ⟨b,1,none⟩ mv')) b ⟨V.tok,V.mer++[m]⟩ tv mv' svs/\Kept F w (w2.setCell ⟨b,1,none⟩ mv'):=by
 have hnb:mv.ownBlock≠some b:=Zah h.mrow h.blk (by decide);have hblk2:Blk w2 b 30 #[tv,mv]:=h.blk.grown hg (λe=>hnb e.symm);have hsz:(w2.setCell ⟨b,1,none⟩ mv').heap.size=w2.heap.size:=Zai _ _ _;have hs2:=hg.size;have hkp:Kept F w (w2.setCell ⟨b,1,none⟩ mv'):=((Kept.refl F w).grown hg (λg e=>.inl (h.fm g e))).setCell (.inl h.fb) _;have hF:∀ i,Own F w (w2.setCell ⟨b,1,none⟩ mv') i->F i\/w.heap.size<=i:=λi hi=>hi.imp id (·.1);have hold:∀ i,i<w.heap.size->i≠b->mv.ownBlock≠some i->(w2.setCell ⟨b,1,none⟩ mv').heap[i]?=w.heap[i]?:=λi h0 h1 h2=>by
  rw[Zad _ _ _ h1,hg.block i h0 (λe=>h2 e.symm)]
 refine⟨?_,hkp⟩;exact {
  blk:=by have:=hblk2.set_ 1 mv';simpa using this
  trow:=Zab h.trow λg e=>by
   have hgl:=h.lt g (h.fv g e);exact hold g hgl (λe2=>Zah h.trow h.blk (by decide) (by rw[e,e2])) (λe2=>Za7 h.mrow h.trow (by decide) g e2 e)
  toks:=λi sv' y h1 h2=>(h.toks i sv' y h1 h2).mono hkp (λ_ hf=>hf) hF
  mrow:=by
   show World.ownsRow _ 0 88 3 _ (V.mer++[m]).length ((V.mer++[m]).flatMap Zav);rw[Yaq,Yae,Ybg,Ybh];exact Zab hown λg e=>Zad _ _ _ λe2=>Zah hown hblk2 (by decide) (by rw[e,e2])
  fits:=λm' hm'=>by
   rcases Ybj.1 hm' with h1|h1
   ·exact h.fits m' h1
   ·rw[Ybi.1 h1];exact hm
  fb:=.inl h.fb
  fv:=λg e=>.inl (h.fv g e)
  fm:=λg e=>by
   rcases hloc with hl|hl
   ·exact .inl (h.fm g (hl.symm.trans e))
   ·have hlt:=(hown.lt g e).2
    rw[hl]at e;simp at e;exact .inr ⟨by omega,by omega⟩
  lt:=λi hi=>by
   rcases hi with hi|hi
   ·have:=h.lt i hi;omega
   ·exact hi.2 }
theorem IsRV.far {w w':World} {F:Nat->Prop} {b:Nat} {V:Voc} {tv mv:Value} {svs:List Value} (h:IsRV w F b V tv mv svs) {g:Nat} (hk:Kept (λi=>i=g) w w') (hg:¬ F g)
  (ht:∀ (A:Option Addr) (x:Nm),BytesIn w A x.length x->∀ ad,A=some ad->0<x.length->ad.block≠g):IsRV w' F b V tv mv svs where
 blk:=h.blk.kept hk (λe=>hg (e ▸ h.fb))
 trow:=Zf2 h.trow hk λg' hg' e=>hg (e ▸ h.fv g' hg')
 toks:=λi sv x h1 h2=>by
  obtain⟨A,c,e1,e2,e3,e4⟩:=h.toks i sv x h1 h2;exact⟨A,c,e1,e2,e3.keptF hk (ht A x e3),e4⟩
 mrow:=Zf2 h.mrow hk λg' hg' e=>hg (e ▸ h.fm g' hg')
 fits:=h.fits
 fb:=h.fb
 fv:=h.fv
 fm:=h.fm
 lt:=λi hi=>Ya7 (h.lt i hi) hk.size
theorem IsRV.see {w:World} {F:Nat->Prop} {b:Nat} {V:Voc} {tv mv:Value} {svs:List Value} (h:IsRV w F b V tv mv svs) (hl:V.tok.length<=1048576) (hm:V.mer.length<=1048576):
  ∃ A B ca cb,tv=.slice A V.tok.length ca/\mv=.slice B V.mer.length cb/\VocSee w A B V.tok.length V.mer.length ca cb V:=by
 obtain⟨A,ca,e1,c1⟩:=Za0 h.trow;obtain⟨B,cb,e2⟩:=Zac h.mrow;have ht:=h.trow;have hmr:=h.mrow;rw[e1]at ht;rw[e2]at hmr;obtain⟨h3,h4⟩:=Zr1 ht rfl (by unfold maxLen;omega) (λi sv x h1 h2=>by
  obtain⟨A',c',a1,a2,a3,_⟩:=h.toks i sv x h1 h2;exact⟨A',c',a1,a2,a3⟩)
 obtain⟨h5,h6⟩:=MgSee.own hmr rfl (by unfold maxLen;omega) h.fits;exact⟨A,B,ca,cb,e1,e2,h3,h5,h4,h6⟩
theorem Zcp (w:World) (l:Nm) (hl:l.length<=1099511627776):∃ c w',(convert 9 24 (.string ⟨l.toArray⟩)).run Tryz.prog w=.ok (.slice (some ⟨w.heap.size,0,none⟩) l.length c) w'/\Below w.heap.size w w'/\BytesIn w' (some ⟨w.heap.size,0,none⟩) l.length l/\l.length<=c/\w'.heap.size=w.heap.size+1:=by
 have hr:=Lib.run_convert_string_bytes (P:=Tryz.prog) w 9 24 5 ⟨l.toArray⟩ Tryz.underlying9 Tryz.underlying24 Tryz.underlying5;have hsz:(⟨l.toArray⟩:ByteArray).size=l.length:=by simp[ByteArray.size]
 rw[hsz]at hr;have hG:=grownCap_ge w l.length 0 5;refine⟨_,_,hr,⟨rfl,rfl,rfl,by rw[Lib.bytesWorld_size];omega,λk hk=>Lib.bytesWorld_at_old w 5 _ k hk⟩,⟨by unfold maxLen;omega,⟨by simp,λad e j u hu=>?_,λe=>by cases e⟩,λad e _=>by cases e;rw[Lib.bytesWorld_size];simp⟩,hG,Lib.bytesWorld_size _ _ _⟩;cases e
 rw[Zaz];rw[Ych]at hu;have hj:j<l.length:=by
  rcases Yab j l.length with h|h
  ·exact h
  ·rw[List.getElem?_eq_none h]at hu;cases hu
 rw[Yax hj]at hu;simp only[Option.map_some,Option.some.injEq]at hu;rw[Lib.bytesWorld_cell w 5 _ j (by rw[hsz];exact hj),<- hu];simp[byteV,Yaw,hj]
def Zlx (w:World) (r:Voc×Int) (e:Ending) (w':World):Prop:=
 ∃ tv mv svs F b,e=.returned (.tuple #[.agg #[tv,mv],.int .i64 r.2])/\Below w.heap.size w w'/\(r.2=0->IsRV w' F b r.1 tv mv svs/\∀ i,F i->w.heap.size<=i)/\(r.2≠0->tv=.slice none 0 0/\mv=.slice none 0 0)
theorem Zli (w:World) (A:Option Addr) (n c:Nat) (l:List (Int×Int)) (hl:PairsIn w A n l) (hn:n<=1048576):
  Calls Tryz.prog 28 #[.slice A n c] w (Zlx w (Zbc l)):=by
 obtain⟨i0,hi,hz0,hz1,hz2⟩:=info_parts Zgf;obtain⟨j0,hj0,hy0,hy1,hy2⟩:=info_parts Zk2;obtain⟨R,hR⟩:=Ze (Zbc l);rw[<- hR];have HR:=Zh hR;have HL:=Zh hl;clear hl hR;have hb1:=(Ybm w.heap.size w).alloc (Yar _) (.cells #[.slice none 0 0,.slice none 0 0] 30);obtain⟨W1,hW1⟩:=Ze (w.alloc (.cells #[.slice none 0 0,.slice none 0 0] 30));have hv0:Blk W1 w.heap.size 30 #[.slice none 0 0,.slice none 0 0]:=by rw[hW1];exact Blk.new _ _ _
 have hs1:W1.heap.size=w.heap.size+1:=by rw[hW1];simp
 rw[<- hW1]at hb1;have hb2:=(Ybm W1.heap.size W1).alloc (Yar _) (.cells #[.slice none 0 0,.slice none 0 0] 30);obtain⟨W2,hW2⟩:=Ze (W1.alloc (.cells #[.slice none 0 0,.slice none 0 0] 30));have hv4:Blk W2 W1.heap.size 30 #[.slice none 0 0,.slice none 0 0]:=by rw[hW2];exact Blk.new _ _ _
 have hs2:W2.heap.size=W1.heap.size+1:=by rw[hW2];simp
 rw[<- hW2]at hb2;rw[hs1]at hv4;have hrv:IsRV W2 (λi=>i=w.heap.size+1) (w.heap.size+1) ⟨[],[]⟩ (.slice none 0 0) (.slice none 0 0) []:={
  blk:=hv4
  trow:=Yb2 _ _ _ _
  toks:=λi sv x h1 _=>by simp at h1
  mrow:=Yb2 _ _ _ _
  fits:=λm h=>by simp at h
  fb:=rfl
  fv:=λg h=>by simp[Value.ownBlock]at h
  fm:=λg h=>by simp[Value.ownBlock]at h
  lt:=λi hi=>by rw[hi];exact hv4.lt }
 have HB2:=Zh (hb1.trans (hb2.mono hb1.size));have HV0:=Zh (hv0.below hb2 hv0.lt);have hs12:w.heap.size+1<=W2.heap.size:=by rw[hs2,hs1];omega
 have HS12:=Zh hs12;have HRV:=Zh hrv;rw[hW1]at hW2;have HW2:=Zh hW2;clear hb1 hW1 hv0 hs1 hb2 hW2 hv4 hs2 hrv hs12 W1;go_enter Tryz.func28,Tryz.ntmps28;go_wp2_with fail;rw[<- HW2.out];go_loopw [5] (λi wr=>∃ (j:Nat) (F:Nat->Prop) (tv:Value) (svs:List Value),j<=256/\i=.int .i64 j/\IsRV wr F (w.heap.size+1) ⟨ones.take j,[]⟩ tv (.slice none 0 0) svs/\(∀ i,F i->w.heap.size+1<=i)/\Below (w.heap.size+1) W2 wr) (λi _=>256-(intOf i).toNat);case atStart=>exact⟨0,_,_,_,by omega,rfl,HRV.out,λi hi=>by omega,Ybm _ _⟩
 case round=>
  obtain⟨j,F,tv,svs,hj,rfl,hG,hF,hB⟩:=hrel;have HG:=Zh hG;have HF:=Zh hF;have HB:=Zh hB;have e0:=hG.blk.cell 0;simp only[lz0,lz1]at e0;rcases Yab j 256 with hlt|hge
  ·have hlt':(j:Int)<256:=by omega
   have htk:=Zwx hlt;obtain⟨x,rfl⟩:∃ x:UInt8,j=x.toNat:=⟨UInt8.ofNat j,by rw[Yaa (by show _<256;omega)]⟩
   have hxx:UInt8.ofNat x.toNat=x:=by simp
   rw[hxx]at htk;have hlen:(ones.take x.toNat).length=x.toNat:=by rw[Ycc,Zig];omega
   obtain⟨At,ct,rfl⟩:=Zac hG.trow;have b1:=(Ybm wr.heap.size wr).alloc (Yar _) (.cells #[.int .u8 x.toNat] 5);have hin:=Zj2 wr [x] (0,0) (by unfold maxLen;simp);obtain⟨u1,hu1⟩:=Ze (wr.alloc (.cells #[.int .u8 x.toNat] 5));have hin1:BytesIn u1 (some ⟨wr.heap.size,0,none⟩) 1 [x]:=by rw[hu1];exact hin
   have hs1:u1.heap.size=wr.heap.size+1:=by rw[hu1];simp
   rw[<- hu1]at b1;have b2:=(Ybm u1.heap.size u1).alloc (Yar _) (.cells #[.slice (some ⟨wr.heap.size,0,none⟩) 1 1] 24);obtain⟨u2,hu2⟩:=Ze (u1.alloc (.cells #[.slice (some ⟨wr.heap.size,0,none⟩) 1 1] 24));have hn2:Blk u2 (wr.heap.size+1) 24 #[.slice (some ⟨wr.heap.size,0,none⟩) 1 1]:=by rw[hu2,<- hs1];exact Blk.new _ _ _
   have hs2:u2.heap.size=wr.heap.size+2:=by rw[hu2];simp;omega
   rw[<- hu2]at b2;have b12:=Zaa b1 b2 b1.size;have hG2:=hG.kept b12;have hti:TokIn u2 F (.slice (some ⟨wr.heap.size,0,none⟩) 1 1) [x]:=⟨_,1,rfl,Yar _,hin1.below b2,λad e _ hf=>by
    cases e
    have:=hG.lt _ hf
    exact absurd this (by simp)⟩
   rw[hu1]at hu2;have HG2:=Zh hG2;have HTI:=Zh hti;have HTK:=Zh htk;have HU2:=Zh hu2;have HN2:=Zh hn2;have HB2':=Zh (hB.trans (b12.mono (Ybu HS12.out hB.size)));have hrow2:=hG2.trow;have hnb:=Zah hG2.trow hG2.blk (by decide);have HLEN:=Zh hlen;rw[show(Voc.tok ⟨ones.take x.toNat,[]⟩)=ones.take x.toNat from rfl,hlen]at hrow2 hnb e0;have HR2:=Zh hrow2;have HNB:=Zh hnb;have hblk2:=hG2.blk;rw[show(Voc.tok ⟨ones.take x.toNat,[]⟩)=ones.take x.toNat from rfl,hlen]at hblk2;have HBK:=Zh hblk2;have HSZ2:=Zh hs2;have HSW:=Zh (Ybu HS12.out hB.size);clear hG hF hB htk hxx hin b1 hin1 hs1 b2 hn2 b12 hG2 hti hu2 hu1 hrow2 hnb hblk2 hlen hs2;clear u1;go_wp2_with (at_builtin;rw[<- HU2.out];refine wpList_append_own_at _ rfl _ _ 27 rfl 0 24 i0 (.slice none 0 0) 1 24 Tryz.underlying27 hi hz0 hz1 hz2 rfl (by decide) _ x.toNat svs rfl HR2.out ⟨wr.heap.size+1,0,none⟩ 1 1 [.slice (some ⟨wr.heap.size,0,none⟩) 1 1] rfl rfl (λj u hu=>by rw[Zaz,HN2.out.cell];simpa using hu) (by simp[Value.oneCell']) (by unfold maxLen;omega) (by omega) (Ybd _) ?_;intro v' w3 hown' hg3 hnil hloc;obtain⟨A3,c3,hv⟩:=Zac hown';rw[hv];clear hnil;have HV:=Zh hv;clear hv;have HB3:=Zh (HBK.out.grown hg3 (λe=>HNB.out e.symm));have z0:=HB3.out.frozen 0;have y0:=HB3.out.cell 0;simp at y0;have HOWN:=Zh hown';have HG3:=Zh hg3;have HLOC:=Zh hloc;clear hown' hg3 hloc);have hown:=HOWN.out;have hg3:=HG3.out;have hloc:=HLOC.out;rw[HV.out]at hown hloc;obtain⟨h5,k5⟩:=HG2.out.addTok (tv':=.slice A3 (x.toNat+1) c3) (sv:=.slice (some ⟨wr.heap.size,0,none⟩) 1 1) (x:=[x]) (w2:=w3) HTI.out (by
    show World.ownsRow _ 0 24 1 _ ((ones.take x.toNat).length+1) _;rw[HLEN.out];exact hown) (by rw[show(Voc.tok ⟨ones.take x.toNat,[]⟩)=ones.take x.toNat from rfl,HLEN.out];exact hg3) (by rw[show(Voc.tok ⟨ones.take x.toNat,[]⟩)=ones.take x.toNat from rfl,HLEN.out];exact hloc)
   have H5:=Zh h5;have HB5:=Zh (HB2'.out.trans (k5.toBelow (by have:=HSW.out;have:=HSZ2.out;omega) HF.out));clear hown hg3 hloc h5 k5 e0 y0 z0;go_roundw;case rel=>
    refine⟨x.toNat+1,_,_,_,by omega,by go_num,by rw[HTK.out];exact H5.out,λi hi=>?_,HB5.out⟩;rcases hi with hi|hi
    ·exact HF.out i hi
    ·have h1:=HSZ2.out
     have h2:=HSW.out;have h3:=hi.1;omega
   case measure=>simp[intOf];omega
  ·obtain rfl:j=256:=by omega
   have hjz:¬ (((256:Nat):Int)<256):=by omega
   have h256:ones.take 256=ones:=Yav (by rw[Zig];omega);have HG':=Zh (h256 ▸ hG);clear HG h256 hG hF hB e0;go_wp2_with fail;go_loopw [6] (λi wr=>∃ (k:Nat) (F:Nat->Prop) (V:Voc) (tv mv:Value) (svs:List Value),k<=n/\i=.int .i64 k/\VOk V/\Zet V (l.drop k)=R/\IsRV wr F (w.heap.size+1) V tv mv svs/\(∀ i,F i->w.heap.size+1<=i)/\Below (w.heap.size+1) W2 wr) (λi _=>n-(intOf i).toNat);case atStart=>exact⟨0,F,⟨ones,[]⟩,_,_,_,Ybd _,rfl,Zqn,by rw[HR.out];rfl,HG'.out,HF.out,HB.out⟩
   case round=>
    clear HG' HF HB F tv svs;obtain⟨k,F,V,tv,mv,svs,hk,rfl,hV,hrest,hG,hF,hB⟩:=hrel;obtain⟨At,Bm,ct,cm,rfl,rfl,hsee⟩:=hG.see (by have:=hV.tl;omega) (by have:=hV.ml;omega);obtain⟨tn,htn⟩:=Ze V.tok.length;obtain⟨mn,hmn⟩:=Ze V.mer.length;have HTN:=Zh htn;have HMN:=Zh hmn;have ht512:tn<=512:=by rw[htn];exact hV.tl
    have hm512:mn<=512:=by rw[hmn];exact hV.ml
    rw[<- htn,<- hmn]at hsee hG;have HV:=Zh hV;have HRE:=Zh hrest;have HG:=Zh hG;have HF:=Zh hF;have HB:=Zh hB;have HSEE:=Zh hsee;have HBW:=Zh (HB2.out.trans (hB.mono (Nat.le_succ _)));have HVw:=Zh (HV0.out.below hB (Nat.lt_succ_self _));have e0:=hG.blk.cell 0;have e1:=hG.blk.cell 1;simp only[lz0,lz1,lz2]at e0 e1;have y0:=HVw.out.cell 0;have y1:=HVw.out.cell 1;have z0:=HVw.out.frozen 0;have z1:=HVw.out.frozen 1;simp only[lz0,lz1,lz2]at y0 y1;clear hV hrest hG hF hB htn hmn hsee;rcases Yab k n with hlt|hge
    ·have hlt':(k:Int)<(n:Int):=by omega
     obtain⟨ad,p,rfl,hp,c0,c1,f0,f1⟩:=(HL.out.below HBW.out).at k hlt;obtain⟨x,y⟩:=p;simp only at c0 c1 f0 f1;have hdr:l.drop k=(x,y) :: l.drop (k+1):=by
      have hkl:=(Ybb.1 hp).1;rw[Ycg hkl];rw[Yax hkl]at hp;rw[Ya9 hp]
     have hre:=HRE.out;rw[hdr]at hre;simp only[Zet]at hre;have herr:∀ e:Int,e≠0->Zdr V x y=e->R=(⟨[],[]⟩,e):=λe h0 he=>by
      rw[<- hre,Yag (by rw[he];exact h0),he]
     have hgood:Zdr V x y=0->Zet (Zf1 V x y) (l.drop (k+1))=R:=λhe=>by
      rw[<- hre,Yaf (by rw[he];simp)]
     have h53:Zhh V x y=false->Zdr V x y=53:=λh=>by unfold Zdr;rw[Yag h]
     have HERR:=Zh herr;have HGOOD:=Zh hgood;have H53:=Zh h53;have hk0:(0:Int)<=(k:Int):=by omega
     obtain⟨ff,hff⟩:=Ze (Zhh V x y);have HFF:=Zh hff;have hfd:ff=(decide (0<=x/\x<(tn:Int))&&(decide (0<=y/\y<(tn:Int))&&!(Zba V.mer x y))):=by rw[hff,HTN.out];rfl
     have HFD:=Zh hfd;clear hdr hre hp herr hgood h53 hff hfd;by_cases g1:x<0
     ·have dg1:decide (x<0)=true:=by simpa using g1
      have hf:Zhh V x y=false:=by rw[<- HFF.out,HFD.out,Yb1];intro h;simp at h;omega
      have HFA:=Zh hf;clear hf g1;go_wp2;refine bodyPost_ret (Zal rfl _ _ w.heap.size 30 #[.slice none 0 0,.slice none 0 0] (0,0) _ rfl ?_ Tryz.underlying30 rfl Zbx) rfl ?_
      ·have:=((HVw.out).set_ 0 (.slice none 0 0)).set_ 1 (.slice none 0 0)
       simpa[Blk]using this
      ·unfold Zlx
       rw[HERR.out 53 (by omega) (H53.out HFA.out)];exact⟨.slice none 0 0,.slice none 0 0,[],λ_=>False,0,rfl,((HBW.out).setCell (Yar _) _).setCell (Yar _) _,λh=>by simp at h,λ_=>⟨rfl,rfl⟩⟩
     have dg1:decide (x<0)=false:=by simpa using g1
     by_cases g2:(tn:Int)<=x
     ·have dg2:decide ((tn:Int)<=x)=true:=by simpa using g2
      have hf:Zhh V x y=false:=by rw[<- HFF.out,HFD.out,Yb1];intro h;simp at h;omega
      have HFA:=Zh hf;clear hf g2;go_wp2;refine bodyPost_ret (Zal rfl _ _ w.heap.size 30 #[.slice none 0 0,.slice none 0 0] (0,0) _ rfl ?_ Tryz.underlying30 rfl Zbx) rfl ?_
      ·have:=((HVw.out).set_ 0 (.slice none 0 0)).set_ 1 (.slice none 0 0)
       simpa[Blk]using this
      ·unfold Zlx
       rw[HERR.out 53 (by omega) (H53.out HFA.out)];exact⟨.slice none 0 0,.slice none 0 0,[],λ_=>False,0,rfl,((HBW.out).setCell (Yar _) _).setCell (Yar _) _,λh=>by simp at h,λ_=>⟨rfl,rfl⟩⟩
     have dg2:decide ((tn:Int)<=x)=false:=by simpa using g2
     by_cases g3:y<0
     ·have dg3:decide (y<0)=true:=by simpa using g3
      have hf:Zhh V x y=false:=by rw[<- HFF.out,HFD.out,Yb1];intro h;simp at h;omega
      have HFA:=Zh hf;clear hf g3;go_wp2;refine bodyPost_ret (Zal rfl _ _ w.heap.size 30 #[.slice none 0 0,.slice none 0 0] (0,0) _ rfl ?_ Tryz.underlying30 rfl Zbx) rfl ?_
      ·have:=((HVw.out).set_ 0 (.slice none 0 0)).set_ 1 (.slice none 0 0)
       simpa[Blk]using this
      ·unfold Zlx
       rw[HERR.out 53 (by omega) (H53.out HFA.out)];exact⟨.slice none 0 0,.slice none 0 0,[],λ_=>False,0,rfl,((HBW.out).setCell (Yar _) _).setCell (Yar _) _,λh=>by simp at h,λ_=>⟨rfl,rfl⟩⟩
     have dg3:decide (y<0)=false:=by simpa using g3
     by_cases g4:(tn:Int)<=y
     ·have dg4:decide ((tn:Int)<=y)=true:=by simpa using g4
      have hf:Zhh V x y=false:=by rw[<- HFF.out,HFD.out,Yb1];intro h;simp at h;omega
      have HFA:=Zh hf;clear hf g4;go_wp2;refine bodyPost_ret (Zal rfl _ _ w.heap.size 30 #[.slice none 0 0,.slice none 0 0] (0,0) _ rfl ?_ Tryz.underlying30 rfl Zbx) rfl ?_
      ·have:=((HVw.out).set_ 0 (.slice none 0 0)).set_ 1 (.slice none 0 0)
       simpa[Blk]using this
      ·unfold Zlx
       rw[HERR.out 53 (by omega) (H53.out HFA.out)];exact⟨.slice none 0 0,.slice none 0 0,[],λ_=>False,0,rfl,((HBW.out).setCell (Yar _) _).setCell (Yar _) _,λh=>by simp at h,λ_=>⟨rfl,rfl⟩⟩
     have dg4:decide ((tn:Int)<=y)=false:=by simpa using g4
     cases hmg:Zba V.mer x y with
     | true=>
      have HMG:=Zh hmg;have hf:Zhh V x y=false:=by rw[<- HFF.out,HFD.out,hmg];simp
      have HFA:=Zh hf;clear hf hmg;go_wp2_with fail;refine(Zln wr Bm mn cm V.mer HSEE.out.mer x y HMG.out).mono ?_;rintro e w3 ⟨rfl,hw⟩;rw[hw];clear hw w3;go_wp2;refine bodyPost_ret (Zal rfl _ _ w.heap.size 30 #[.slice none 0 0,.slice none 0 0] (0,0) _ rfl ?_ Tryz.underlying30 rfl Zbx) rfl ?_
      ·have:=((HVw.out).set_ 0 (.slice none 0 0)).set_ 1 (.slice none 0 0)
       simpa[Blk]using this
      ·unfold Zlx
       rw[HERR.out 53 (by omega) (H53.out HFA.out)];exact⟨.slice none 0 0,.slice none 0 0,[],λ_=>False,0,rfl,((HBW.out).setCell (Yar _) _).setCell (Yar _) _,λh=>by simp at h,λ_=>⟨rfl,rfl⟩⟩
     | false=>
      have HMG:=Zh hmg;have hf:Zhh V x y=true:=by
       rw[<- HFF.out,HFD.out,hmg,Yb0 (by omega),Yb0 (by omega)];rfl
      obtain⟨i,j,s,t,hi,hj,hs,ht,hboth,-⟩:=Zmz hf;obtain⟨adt,C1,q1,rfl,a1,_,i1⟩:=HSEE.out.tok.at_ i s hs;obtain⟨_,C2,q2,hh,a2,_,i2⟩:=HSEE.out.tok.at_ j t ht;cases hh
      have hsl:=HV.out.short s (Ybz hs);have htl:=HV.out.short t (Ybz ht);have hit:(i:Int)<(tn:Int):=by omega
      have hjt:(j:Int)<(tn:Int):=by omega
      have hi0:(0:Int)<=(i:Int):=by omega
      have hj0':(0:Int)<=(j:Int):=by omega
      subst hi hj;have e0q:∀ q,(wr.drewN q).cell? ⟨w.heap.size+1,0,none⟩=some (.slice (some adt) tn ct):=λ_=>e0;have a1q:∀ q,(wr.drewN q).cell? (adt.add i)=some (.slice C1 s.length q1):=λ_=>a1;have a2q:∀ q,(wr.drewN q).cell? (adt.add j)=some (.slice C2 t.length q2):=λ_=>a2;have cv1:=λq=>Zdx (i1.drewN q) q1;have cv2:=λq=>Zdx (i2.drewN q) q2;have la:=hsl.2;have lb:=htl.2;have laz:(s.length:Int)<=8388608:=by omega
      have lbz:(t.length:Int)<=8388608:=by omega
      have lab:s.length+t.length<=9223372036854775807:=by omega
      have labn:¬ (9223372036854775807<s.length+t.length):=by omega
      obtain⟨st,hst⟩:=Ze (s++t);have hbs:(⟨s.toArray⟩:ByteArray)++⟨t.toArray⟩=⟨st.toArray⟩:=by rw[hst,ByteArray.mk_append_mk]
      have hstl:st.length=s.length+t.length:=by rw[hst,Yaq]
      have HBO:=Zh (hboth.trans hst.symm);have HFA:=Zh hf;have HL1:=Zh hsl;have HSTL:=Zh hstl;clear hmg hf hs ht hboth a1 a2 i1 i2 hsl htl hst hstl;go_wp2_with fail;refine(Zln wr Bm mn cm V.mer HSEE.out.mer i j HMG.out).mono ?_;rintro e w3 ⟨rfl,hw⟩;rw[hw];clear hw w3;go_wp2_with fail;go_quiet (fail);obtain⟨X,hX⟩:=Ze (wr.drewN nq);rw[<- hX];have hbX:Below wr.heap.size wr X:=by rw[hX];exact Zaf (Ybm _ _) _
      have HGX:=Zh (HG.out.kept hbX);have HSX:=Zh (HSEE.out.below hbX);have HBX:=Zh (Zaa HBW.out hbX HBW.out.size);have HBX1:=Zh (HB.out.trans (hbX.mono (Ybu HS12.out HB.out.size)));have HVX:=Zh (HVw.out.below hbX HVw.out.lt);have hszX:w.heap.size+1<=X.heap.size:=Ybu (Ybu HS12.out HB.out.size) hbX.size;have HSZX:=Zh hszX;have b0:=HGX.out.blk.cell 0;have b1:=HGX.out.blk.cell 1;simp only[lz0,lz1,lz2]at b0 b1;have y0':=HVX.out.cell 0;have y1':=HVX.out.cell 1;have z0':=HVX.out.frozen 0;have z1':=HVX.out.frozen 1;simp only[lz0,lz1,lz2]at y0' y1';clear hX hbX e0q a1q a2q cv1 cv2 e0 e1 y0 y1 z0 z1 c0 c1 hszX hbs;have hpe:Zdr V i j=if 16<st.length then 52 else if 512<=mn\/(Zbb V.tok st<0/\512<=tn) then 2 else 0:=by
       unfold Zdr;rw[Yaf (by rw[HFA.out];simp),HBO.out,HMN.out,HTN.out]
      have HPE:=Zh hpe;clear hpe;by_cases h16:16<st.length
      ·have z16:(16:Int)<(st.length:Int):=by omega
       have H16:=Zh h16;clear h16;go_wp2;refine bodyPost_ret (Zal rfl _ _ w.heap.size 30 #[.slice none 0 0,.slice none 0 0] (0,0) _ rfl ?_ Tryz.underlying30 rfl Zbx) rfl ?_
       ·have:=((HVX.out).set_ 0 (.slice none 0 0)).set_ 1 (.slice none 0 0)
        simpa[Blk]using this
       ·unfold Zlx
        rw[HERR.out 52 (by omega) (by rw[HPE.out,Yag H16.out])];exact⟨.slice none 0 0,.slice none 0 0,[],λ_=>False,0,rfl,((HBX.out).setCell (Yar _) _).setCell (Yar _) _,λh=>by simp at h,λ_=>⟨rfl,rfl⟩⟩
      have z16:¬ (16:Int)<(st.length:Int):=by omega
      obtain⟨fd,hfd⟩:=Ze (Zbb V.tok st);have hfb:=Zyn (L:=V.tok) (by rw[<- HTN.out];omega) st;rw[<- hfd]at HPE hfb;rw[Yaf h16]at HPE;have HFDT:=Zh hfd;have H16:=Zh h16;have hslen:st.length<=16:=by omega
      clear hfd h16;go_wp2_with fail;refine(Zyh X (some adt) tn ct V.tok st HSX.out.tok HFDT.out.symm).mono ?_;rintro e w3 ⟨rfl,hw⟩;rw[hw];clear hw w3;by_cases hmf:512<=mn
      ·have dm:decide ((512:Int)<=(mn:Int))=true:=by simp;omega
       have HMF:=Zh hmf;clear hmf;go_wp2;refine bodyPost_ret (Zal rfl _ _ w.heap.size 30 #[.slice none 0 0,.slice none 0 0] (0,0) _ rfl ?_ Tryz.underlying30 rfl Zbx) rfl ?_
       ·have:=((HVX.out).set_ 0 (.slice none 0 0)).set_ 1 (.slice none 0 0)
        simpa[Blk]using this
       ·unfold Zlx
        rw[HERR.out 2 (by omega) (by rw[HPE.out,Yag (.inl HMF.out)])];exact⟨.slice none 0 0,.slice none 0 0,[],λ_=>False,0,rfl,((HBX.out).setCell (Yar _) _).setCell (Yar _) _,λh=>by simp at h,λ_=>⟨rfl,rfl⟩⟩
      have dm:decide ((512:Int)<=(mn:Int))=false:=by simp;omega
      by_cases hneg:fd<0
      ·have dn:decide (fd<0)=true:=by simpa using hneg
       by_cases htf:512<=tn
       ·have dt:decide ((512:Int)<=(tn:Int))=true:=by simp;omega
        have HTF:=Zh htf;have HNEG:=Zh hneg;clear htf hneg;go_wp2;refine bodyPost_ret (Zal rfl _ _ w.heap.size 30 #[.slice none 0 0,.slice none 0 0] (0,0) _ rfl ?_ Tryz.underlying30 rfl Zbx) rfl ?_
        ·have:=((HVX.out).set_ 0 (.slice none 0 0)).set_ 1 (.slice none 0 0)
         simpa[Blk]using this
        ·unfold Zlx
         rw[HERR.out 2 (by omega) (by rw[HPE.out,Yag (.inr ⟨HNEG.out,HTF.out⟩)])];exact⟨.slice none 0 0,.slice none 0 0,[],λ_=>False,0,rfl,((HBX.out).setCell (Yar _) _).setCell (Yar _) _,λh=>by simp at h,λ_=>⟨rfl,rfl⟩⟩
       have dt:decide ((512:Int)<=(tn:Int))=false:=by simp;omega
       have hok:Zdr V i j=0:=by rw[HPE.out,Yaf (by omega)]
       have hadd:Zf1 V i j=⟨V.tok++[st],V.mer++[⟨i,j,(tn:Int)⟩]⟩:=by
        unfold Zf1;rw[HBO.out,<- HFDT.out,Yag hneg,HTN.out]
       have HOKP:=Zh hok;have HADD:=Zh hadd;obtain⟨cb,w5,hrun,hb5,hin5,hc5,hs5⟩:=Zcp X st (by omega);have hG5:=HGX.out.kept hb5;have b2:=(Ybm w5.heap.size w5).alloc (Yar _) (.cells #[.slice (some ⟨X.heap.size,0,none⟩) st.length cb] 24);obtain⟨u2,hu2⟩:=Ze (w5.alloc (.cells #[.slice (some ⟨X.heap.size,0,none⟩) st.length cb] 24));have hn2:Blk u2 w5.heap.size 24 #[.slice (some ⟨X.heap.size,0,none⟩) st.length cb]:=by rw[hu2];exact Blk.new _ _ _
       rw[<- hu2]at b2;have hG2:=hG5.kept b2;have hb52:=Zaa hb5 b2 hb5.size;have hti:TokIn u2 F (.slice (some ⟨X.heap.size,0,none⟩) st.length cb) st:=⟨_,cb,rfl,hc5,hin5.below b2,λad e _ hf=>by
        cases e
        have:=HGX.out.lt _ hf
        exact absurd this (by simp)⟩
       have hrow2:=hG2.trow;rw[<- HTN.out]at hrow2;have HG2:=Zh hG2;have HTI:=Zh hti;have HU2:=Zh hu2;have HN2:=Zh hn2;have HR2:=Zh hrow2;have HNB:=Zh (Zah hrow2 hG2.blk (by decide));have HBK:=Zh hG2.blk;have HB2':=Zh (HBX1.out.trans (hb52.mono HSZX.out));have hsu:X.heap.size<=u2.heap.size:=hb52.size;have HSU:=Zh hsu;have e0w:=hG5.blk.cell 0;simp only[lz0,lz1]at e0w;clear hok hadd hb5 hin5 hc5 hs5 hG5 b2 hu2 hn2 hG2 hb52 hti hrow2 hsu;clear y0' y1' z0' z1';have tok1:True:=trivial;have tok2:True:=trivial;have htnf:Zaj (tn:Int):=⟨by omega,by omega⟩
       have HTNF:=Zh htnf;clear htnf;go_wp2_with (first
        | (
         have _t:=tok1;at_builtin;rw[<- HU2.out];refine wpList_append_own_at _ rfl _ _ 27 rfl 0 24 i0 (.slice none 0 0) 1 24 Tryz.underlying27 hi hz0 hz1 hz2 rfl (by decide) _ tn svs rfl HR2.out ⟨w5.heap.size,0,none⟩ 1 1 [.slice (some ⟨X.heap.size,0,none⟩) st.length cb] rfl rfl (λj u hu=>by rw[Zaz,HN2.out.cell];simpa using hu) (by simp[Value.oneCell']) (by unfold maxLen;omega) (by omega) (Ybd _) ?_;intro v' w6 hown' hg3 hnil hloc;clear tok1 hnil;obtain⟨A3,c3,hv⟩:=Zac hown';rw[hv]at hown' hloc ⊢;clear hv;have HB3:=Zh (HBK.out.grown hg3 (λe=>HNB.out e.symm));have z0:=HB3.out.frozen 0;have y0:=HB3.out.cell 0;simp at y0;obtain⟨h5,k5⟩:=HG2.out.addTok (tv':=.slice A3 (tn+1) c3) (w2:=w6) HTI.out (by rw[<- HTN.out];exact hown') hg3 hloc;have HB5:=Zh (HB2'.out.trans (k5.toBelow (Ybu HSZX.out HSU.out) HF.out));have y9:=h5.blk.cell 1;simp only[lz0,lz1,lz2]at y9;have hs6:u2.heap.size<=w6.heap.size:=hg3.size;have h5s:=Zai w6 ⟨w.heap.size+1,0,none⟩ (.slice A3 (tn+1) c3);have hbA:=(Ybm (w6.setCell ⟨w.heap.size+1,0,none⟩ (.slice A3 (tn+1) c3)).heap.size (w6.setCell ⟨w.heap.size+1,0,none⟩ (.slice A3 (tn+1) c3))).alloc (Yar _) (.cells #[.int .i64 i,.int .i64 j,.int .i64 tn] 88);obtain⟨u4,hu4⟩:=Ze ((w6.setCell ⟨w.heap.size+1,0,none⟩ (.slice A3 (tn+1) c3)).alloc (.cells #[.int .i64 i,.int .i64 j,.int .i64 tn] 88));have hn4:Blk u4 w6.heap.size 88 #[.int .i64 i,.int .i64 j,.int .i64 tn]:=by rw[hu4,<- h5s];exact Blk.new _ _ _
         rw[<- hu4]at hbA;have h6:=h5.kept hbA;have hr6:=h6.mrow;have hb6:=h6.blk;have hnb6:=Zah hr6 hb6 (by decide);simp only[<- HMN.out]at hr6;have HB6:=Zh (HB5.out.trans (hbA.mono (by rw[h5s];have:=HSU.out;have:=HSZX.out;omega)));have HS6:=Zh (show w.heap.size+1<=u4.heap.size from by have h1:=hbA.size;rw[h5s]at h1;have:=HSU.out;have:=HSZX.out;omega);have HF6:=Zh (show ∀ q,Own F u2 (w6.setCell ⟨w.heap.size+1,0,none⟩ (.slice A3 (tn+1) c3)) q->w.heap.size+1<=q from λq hq=>by
          rcases hq with hq|hq
          ·exact HF.out q hq
          ·have h1:=hq.1
           have:=HSU.out
           have:=HSZX.out
           omega)
         have H6:=Zh h6;have HR6:=Zh hr6;have HBK6:=Zh hb6;have HNB6:=Zh hnb6;have HU4:=Zh hu4;have HN4:=Zh hn4;clear hown' hg3 hloc h5 k5 hs6 h5s hbA hn4 hu4 h6 hr6 hb6 hnb6)
        | (
         have _t:=tok2;at_builtin;rw[<- HU4.out];refine wpList_append_own_at _ rfl _ _ 28 rfl 0 88 j0 _ 3 24 Tryz.underlying28 hj0 hy0 hy1 hy2 rfl (by decide) _ mn (V.mer.flatMap Zav) rfl HR6.out ⟨w6.heap.size,0,none⟩ 1 1 (Zav ⟨i,j,(tn:Int)⟩) rfl rfl (λj u hu=>by rw[Zaz,HN4.out.cell];simpa[Zav]using hu) (by simp[Zav,Value.oneCell']) (by unfold maxLen;omega) (by omega) (Ybd _) ?_;intro v' w8 hown' hg3 hnil hloc;clear tok2 hnil;obtain⟨A8,c8,hv⟩:=Zac hown';rw[hv]at hown' hloc ⊢;clear hv;have HB8:=Zh (HBK6.out.grown hg3 (λe=>HNB6.out e.symm));have z8:=HB8.out.frozen 1;have y8:=HB8.out.cell 1;simp at y8;have HOWN8:=Zh hown';have HG8:=Zh hg3;have HLOC8:=Zh hloc;clear hown' hg3 hloc))
       have hown:=HOWN8.out;obtain⟨h9,k9⟩:=H6.out.addMer (mv':=.slice A8 (mn+1) c8) (m:=⟨i,j,(tn:Int)⟩) (w2:=w8) ⟨f0,f1,HTNF.out⟩ (by simp only[<- HMN.out];exact hown) HG8.out HLOC8.out;have H9:=Zh h9;have HB9:=Zh (HB6.out.trans (k9.toBelow HS6.out HF6.out));clear hown h9 k9 z8 y8;go_roundw;case rel=>
        refine⟨k+1,_,_,_,_,_,by omega,by go_num,HV.out.add HOKP.out,HGOOD.out HOKP.out,by rw[HADD.out];exact H9.out,λq hq=>?_,HB9.out⟩;rcases hq with hq|hq
        ·exact HF6.out q hq
        ·have h1:=HS6.out
         have h2:=hq.1;omega
       case measure=>simp[intOf];omega
      ·have dn:decide (fd<0)=false:=by simpa using hneg
       have hok:Zdr V i j=0:=by rw[HPE.out,Yaf (by omega)]
       have hadd:Zf1 V i j=⟨V.tok,V.mer++[⟨i,j,fd⟩]⟩:=by
        unfold Zf1;rw[HBO.out,<- HFDT.out,Yaf hneg]
       have HOKP:=Zh hok;have HADD:=Zh hadd;have HFB:=Zh hfb;have hbA:=(Ybm X.heap.size X).alloc (Yar _) (.cells #[.int .i64 i,.int .i64 j,.int .i64 fd] 88);obtain⟨u4,hu4⟩:=Ze (X.alloc (.cells #[.int .i64 i,.int .i64 j,.int .i64 fd] 88));have hn4:Blk u4 X.heap.size 88 #[.int .i64 i,.int .i64 j,.int .i64 fd]:=by rw[hu4];exact Blk.new _ _ _
       rw[<- hu4]at hbA;have h6:=HGX.out.kept hbA;have hr6:=h6.mrow;have hb6:=h6.blk;have hnb6:=Zah hr6 hb6 (by decide);rw[<- HMN.out]at hr6;have HB6:=Zh (HBX1.out.trans (hbA.mono HSZX.out));have HS6:=Zh (Ybu HSZX.out hbA.size);have H6:=Zh h6;have HR6:=Zh hr6;have HBK6:=Zh hb6;have HNB6:=Zh hnb6;have HU4:=Zh hu4;have HN4:=Zh hn4;clear hok hadd hbA hu4 hn4 h6 hr6 hb6 hnb6 y0' y1' z0' z1';have tok2:True:=trivial;go_wp2_with (
        have _t:=tok2;at_builtin;rw[<- HU4.out];refine wpList_append_own_at _ rfl _ _ 28 rfl 0 88 j0 _ 3 24 Tryz.underlying28 hj0 hy0 hy1 hy2 rfl (by decide) _ mn (V.mer.flatMap Zav) rfl HR6.out ⟨X.heap.size,0,none⟩ 1 1 (Zav ⟨i,j,fd⟩) rfl rfl (λj u hu=>by rw[Zaz,HN4.out.cell];simpa[Zav]using hu) (by simp[Zav,Value.oneCell']) (by unfold maxLen;omega) (by omega) (Ybd _) ?_;intro v' w8 hown' hg3 hnil hloc;clear tok2 hnil;obtain⟨A8,c8,hv⟩:=Zac hown';rw[hv]at hown' hloc ⊢;clear hv;have HB8:=Zh (HBK6.out.grown hg3 (λe=>HNB6.out e.symm));have z8:=HB8.out.frozen 1;have y8:=HB8.out.cell 1;simp at y8;have HOWN8:=Zh hown';have HG8:=Zh hg3;have HLOC8:=Zh hloc;clear hown' hg3 hloc)
       have hown:=HOWN8.out;obtain⟨h9,k9⟩:=H6.out.addMer (mv':=.slice A8 (mn+1) c8) (m:=⟨i,j,fd⟩) (w2:=w8) ⟨f0,f1,HFB.out⟩ (by simp only[<- HMN.out];exact hown) HG8.out HLOC8.out;have H9:=Zh h9;have HB9:=Zh (HB6.out.trans (k9.toBelow HS6.out HF.out));clear hown h9 k9 z8 y8;go_roundw;case rel=>
        refine⟨k+1,_,_,_,_,_,by omega,by go_num,HV.out.add HOKP.out,HGOOD.out HOKP.out,by rw[HADD.out];exact H9.out,λq hq=>?_,HB9.out⟩;rcases hq with hq|hq
        ·exact HF.out q hq
        ·have h1:=HS6.out
         have h2:=hq.1;omega
       case measure=>simp[intOf];omega
    ·obtain rfl:k=n:=by omega
     have hkz:¬ ((k:Int)<(k:Int)):=by omega
     have hre:=HRE.out;rw[List.drop_of_length_le (by rw[HL.out.len];exact Yar _)]at hre;have HRE3:=Zh hre;clear hre;go_wp2;have hnF:¬ F w.heap.size:=λhf=>by have:=HF.out _ hf;omega
     have hk1:Kept (λi=>i=w.heap.size) wr (wr.setCell ⟨w.heap.size,0,none⟩ (.slice At tn ct)):=(Kept.refl (λi=>i=w.heap.size) wr).setCell (p:=⟨w.heap.size,0,none⟩) (.inl rfl) _;have hk2:Kept (λi=>i=w.heap.size) wr ((wr.setCell ⟨w.heap.size,0,none⟩ (.slice At tn ct)).setCell ⟨w.heap.size,1,none⟩ (.slice Bm mn cm)):=hk1.setCell (p:=⟨w.heap.size,1,none⟩) (.inl rfl) _;have h4:=HG.out.far hk2 hnF (λA0 x hx=>Zqa HVw.out (λi c=>by
      match i with
      | 0=>simp[byteV]
      | 1=>simp[byteV]
      | i+2=>simp) A0 x hx)
     refine bodyPost_ret (Zal rfl _ _ w.heap.size 30 #[.slice At tn ct,.slice Bm mn cm] (0,0) _ rfl ?_ Tryz.underlying30 rfl Zbx) rfl ?_
     ·have:=(HVw.out.set_ 0 (.slice At tn ct)).set_ 1 (.slice Bm mn cm)
      simpa[Blk]using this
     ·unfold Zlx
      rw[<- HRE3.out];exact⟨.slice At tn ct,.slice Bm mn cm,svs,F,w.heap.size+1,rfl,(HBW.out.setCell (Yar _) _).setCell (Yar _) _,λ_=>⟨h4,λi hi=>by have:=HF.out i hi;omega⟩,λh=>absurd rfl h⟩
def bigD (l:List (Nm×Nm)):Nat->Nat
 | 0=>0
 | k+1=>bigD l k+(5+min (l.getD k ([],[])).1.length 3000+min (l.getD k ([],[])).2.length 3000)
theorem Zx8 {l:List (Nm×Nm)}:∀ {n:Nat},n<=l.length->bigD l n<3000->n<=600/\Zfr (l.take n)<=bigD l n/\∀ p∈l.take n,p.1.length<3000/\p.2.length<3000
 | 0,_,_=>by simp[Zfr,bigD]
 | n+1,hn,h=>by
  have hx:l[n]?=some (l[n]'(by omega)):=Yax _;have hd:l.getD n ([],[])=l[n]'(by omega):=by rw[Yaw,hx];rfl
  rw[bigD,hd]at h ⊢;obtain⟨h1,h2,h3⟩:=Zx8 (l:=l) (n:=n) (by omega) (by omega);have e:l.take (n+1)=l.take n++[l[n]'(by omega)]:=by rw[Ya5,hx];rfl
  have hsum:n*5<=bigD l n:=by
   clear h h1 h2 h3 e hd hx hn
   induction n with
   | zero=>simp
   | succ n ih=>rw[bigD];omega
  refine⟨by omega,?_,λp hp=>?_⟩
  ·rw[e]
   unfold Zfr at h2 ⊢;rw[Ybe,List.sum_append];simp only[Ya2,List.map_nil,List.sum_cons,List.sum_nil];omega
  ·rw[e]at hp
   rcases Ybj.1 hp with hp|hp
   ·exact h3 p hp
   ·rw[Ybi.1 hp]
    omega
structure Zxg (l:List (Nm×Nm)):Prop where
 few:l.length<=600
 text:Zfr l<=3000
 each:∀ p∈l,p.1.length<3000/\p.2.length<3000
theorem Qep {l:List (Nm×Nm)} (h:bigD l l.length<3000):Zxg l:=by
 obtain⟨h1,h2,h3⟩:=Zx8 (Yar l.length) h;rw[Ya6]at h2 h3;exact⟨h1,by omega,h3⟩
theorem Zqu (w:World) (P A:Option Addr) (p cp n c:Nat) (l:List (Nm×Nm)) (hp63:p<=9223372036854775807) (h:DocsIn w A n l):Calls Tryz.prog 10 #[.slice P p cp,.slice A n c] w λe w'=>∃ r,e=.returned (.bool r)/\(∃ q,w'=w.drewN q)/\(r=false->p<=60/\Zxg l):=by
 have HP:=Zh h;have hn63:=h.fit;have hlen:=h.len;have HLEN:=Zh hlen;unfold maxLen at hn63;clear h hlen;go_enter Tryz.func10,Tryz.ntmps10;go_wp2;go_loopw [5,6] (λv i wr=>∃ k N q:Nat,k<=n/\v=.int .i64 N/\i=.int .i64 k/\wr=w.drewN q/\(N=p\/N<=9005)/\N=p+bigD l k) (λ_ i _=>n-(intOf i).toNat);case atStart=>exact⟨0,p,0,by omega,rfl,rfl,rfl,.inl rfl,rfl⟩
 case round=>
  obtain⟨k,N,q,hk,rfl,rfl,hwr,h1,h3⟩:=hrel;have H3:=Zh h3;have HWR:=Zh hwr;clear h3 hwr;by_cases hkn:k<n
  ·have d1:decide ((k:Int)<(n:Int))=true:=by simpa using hkn
   by_cases hN:N<3000
   ·have d2:decide ((N:Int)<3000)=true:=by simp;omega
    have p0:(0:Int)<=(k:Int):=by omega
    have p1:(k:Int)<(n:Int):=by omega
    obtain⟨pa,x,rfl,hx,a1,a2,hv1,hv2⟩:=HP.out.at k hkn;have hpx:l.getD k ([],[])=x:=by rw[Yaw,hx];rfl
    obtain⟨xk,xt⟩:=x;simp only at a1 a2 hv1 hv2;unfold maxLen at hv1 hv2;have z1:=Zcb xk;have z2:=Zcb xt;obtain⟨S1,hS1⟩:=Ze xk.length;obtain⟨S2,hS2⟩:=Ze xt.length;rw[<- hS1]at z1 hv1;rw[<- hS2]at z2 hv2;obtain⟨E1,hE1⟩:∃ E1:Nat,E1=min S1 3000:=⟨_,rfl⟩
    obtain⟨E2,hE2⟩:∃ E2:Nat,E2=min S2 3000:=⟨_,rfl⟩
    have hm1:∀ w ty,(Builtin.min_ #[3,3] ty #[.int .i64 (S1:Int),.int .i64 3000]).run Tryz.prog w=.ok (.int .i64 (E1:Int)) w:=λw ty=>by
     rw[Lib.run_min_ints,show min (S1:Int) 3000=(E1:Int) by omega]
    have hm2:∀ w ty,(Builtin.min_ #[3,3] ty #[.int .i64 (S2:Int),.int .i64 3000]).run Tryz.prog w=.ok (.int .i64 (E2:Int)) w:=λw ty=>by
     rw[Lib.run_min_ints,show min (S2:Int) 3000=(E2:Int) by omega]
    have e1:E1<=3000:=by omega
    have e2:E2<=3000:=by omega
    have hw1:IntKind.i64.wrap ((N:Int)+5)=((N+5:Nat):Int):=by rw[Ybo _ (by omega)];push_cast;rfl
    have hw2:IntKind.i64.wrap (((N+5:Nat):Int)+(E1:Int))=((N+5+E1:Nat):Int):=by rw[Ybo _ (by omega)];push_cast;rfl
    have hw2':IntKind.i64.wrap (((N+5+E1:Nat):Int)+(E2:Int))=((N+5+E1+E2:Nat):Int):=by rw[Ybo _ (by omega)];push_cast;rfl
    have hw3:IntKind.i64.wrap ((k:Int)+1)=(k:Int)+1:=Ybo _ (by omega);have HNX:Hid (N+5+E1+E2=p+bigD l (k+1)):=Zh (by have:=H3.out;simp only[bigD,hpx];omega);clear hx hpx hS1 hS2 hE1 hE2;have a1w:∀ k',(wr.drewN k').cell? (pa.add (k*2))=some (.string ⟨xk.toArray⟩):=λk'=>by rw[HWR.out];exact a1
    have a2w:∀ k',(wr.drewN k').cell? ⟨(pa.add (k*2)).block,(pa.add (k*2)).off+1,none⟩=some (.string ⟨xt.toArray⟩):=λk'=>by rw[HWR.out];exact a2
    clear a1 a2;go_upto_region 5 with fail;go_quiet (fail);go_wp2;go_roundw;case rel=>exact⟨k+1,N+5+E1+E2,_,by omega,by go_num,by go_num,by rw[HWR.out,Ybs],.inr (by omega),HNX.out⟩
    case measure=>simp[intOf];omega
   ·have d2:decide ((N:Int)<3000)=false:=by simp;omega
    have d3:decide ((3000:Int)<=(N:Int))=true:=by simp;omega
    go_wp2;go_ret;exact⟨true,rfl,⟨q,HWR.out⟩,λe=>by cases e⟩
  ·have d1:decide ((k:Int)<(n:Int))=false:=by simpa using hkn
   by_cases hN:N<3000
   ·have d3:decide ((3000:Int)<=(N:Int))=false:=by simp;omega
    obtain⟨r,hr⟩:∃ r:Bool,r=decide ((60:Int)<(p:Int)):=⟨_,rfl⟩
    have hfin:r=false->p<=60/\Zxg l:=λe=>by
     rw[e]at hr;have h5:=of_decide_eq_false hr.symm;have h4:=H3.out;rw[show k=l.length by rw[HLEN.out];omega]at h4;exact⟨by omega,Qep (by omega)⟩
    have HFIN:=Zh hfin;have HRR:=Zh hr.symm;clear hfin hr;have d4:=HRR.out;go_wp2;go_ret;exact⟨r,rfl,⟨q,HWR.out⟩,HFIN.out⟩
   ·have d3:decide ((3000:Int)<=(N:Int))=true:=by simp;omega
    go_wp2;go_ret;exact⟨true,rfl,⟨q,HWR.out⟩,λe=>by cases e⟩
def bk (M:List Mg) (l:List Int) (i:Nat):Nat:=match Zcw M l i with|none=>M.length|some p=>p.1
def ba (M:List Mg) (l:List Int) (i:Nat):Int:=match Zcw M l i with|none=>-1|some p=>(p.2:Int)
theorem Qfl (M:List Mg) (l:List Int) (i:Nat):bk M l i<=M.length:=by
 unfold bk;rcases Zc0 M l i with⟨h,_⟩|⟨k,j,h,h2⟩
 ·rw[h];exact Yar _
 ·rw[h]
  obtain⟨a,b,_,_,h3⟩:=Zci h2.rk;exact Nat.le_of_lt (Zf3 h3).1
theorem Qeu {M:List Mg} {l:List Int} {i r:Nat} (h:Zb0 M l i=some r) (hr:r<bk M l i):bk M l (i+1)=r/\ba M l (i+1)=i:=by
 unfold bk at hr;unfold bk ba;cases hb:Zcw M l i with
 | none=>simp[Zcw,h,hb]
 | some p=>
  obtain⟨k0,i0⟩:=p;rw[hb]at hr;simp at hr;simp[Zcw,h,hb,hr]
theorem Qfk {M:List Mg} {l:List Int} {i:Nat} (h:∀ r,Zb0 M l i=some r->¬ r<bk M l i):bk M l (i+1)=bk M l i/\ba M l (i+1)=ba M l i:=by
 cases hp:Zb0 M l i with
 | none=>simp[bk,ba,Zcw,hp]
 | some r=>
  have h1:=h r hp;unfold bk at h1;unfold bk ba;cases hb:Zcw M l i with
  | none=>
   rw[hb]at h1;obtain⟨a,b,_,_,h3⟩:=Zci hp;exact absurd (Zf3 h3).1 h1
  | some p=>
   obtain⟨k0,i0⟩:=p;rw[hb]at h1;simp at h1;simp[Zcw,hp,hb];constructor
   ·rw[Yaf (by omega)]
   ·rw[Yaf (by omega)]
theorem Zuv {M:List Mg} {a b:Int} {k:Nat} {m:Mg} (hm:M[k]?=some m) (h:m.a=a/\m.b=b) (hn:∀ (j:Nat) (x:Mg),j<k->M[j]?=some x->¬ (x.a=a/\x.b=b)):rkOf M a b=some k:=by
 unfold rkOf;obtain⟨hk,e⟩:=Ybb.1 hm;rw[List.findIdx?_eq_some_iff_getElem];refine⟨hk,by rw[e];exact Yb0 h,λj hj=>?_⟩;simpa using hn j _ hj (Yax (by omega))
theorem Qfc {M:List Mg} {l:List Int} (h:ba M l (l.length-1)<0):Zdm M l=none:=by
 unfold ba at h;unfold Zdm;cases hb:Zcw M l (l.length-1)with
 | none=>rfl
 | some p=>rw[hb]at h;simp at h;omega
theorem Qd1 {M:List Mg} {l:List Int} (h:¬ ba M l (l.length-1)<0):∃ i:Nat,ba M l (l.length-1)=(i:Int)/\Zdm M l=some (bk M l (l.length-1),i)/\i+1<l.length/\bk M l (l.length-1)<M.length:=by
 unfold ba at h ⊢;unfold Zdm bk;rcases Zc0 M l (l.length-1)with⟨hb,_⟩|⟨k,j,hb,h2⟩
 ·rw[hb]at h
  exact absurd (by decide) h
 ·rw[hb]
  obtain⟨a,b,_,_,h3⟩:=Zci h2.rk;exact⟨j,rfl,rfl,Zei h2.rk,(Zf3 h3).1⟩
theorem Qap (ad:Addr) (p j:Nat):(ad.add p).add j=ad.add (p+j):=by
 unfold Addr.add;split<;>split<;>(try split)<;>(first|rfl|(simp_all;done)|(simp_all;omega))
theorem Qei {w:World} {A:Option Addr} {n c:Nat} {l:List Int} (h:Src w A n (l.map i64V)) (hc:n<=c) (p:Nat) (hp:p<=n):Src w (Zak A p c) (n-p) ((l.drop p).map i64V):=by
 have hl:l.length=n:=by have:=h.len;simpa using this
 have hlen:((l.drop p).map i64V).length=n-p:=by simp[hl]
 unfold Zak;by_cases hcp:c=p
 ·rw[Yag hcp]
  have e:(l.drop p)=[]:=Ya0 (by simp;omega);rw[e];exact⟨by simp;omega,λad _ j u hu=>by simp at hu,λ_=>by omega⟩
 ·rw[Yaf hcp]
  cases A with
  | none=>
   have:=h.nil rfl
   have e:(l.drop p)=[]:=Ya0 (by simp;omega);rw[e];exact⟨by simp;omega,λad _ j u hu=>by simp at hu,λ_=>by omega⟩
  | some ad=>
   refine⟨hlen,λa e j u hu=>?_,λe=>by cases e⟩;cases e
   rw[Qap];refine h.cells ad rfl (p+j) u ?_;rw[Ych,Ybv]at hu;rw[Ych];exact hu
theorem Zzb (w:World):(sizeOf (Tryz.prog.elem 52)).run Tryz.prog w=.ok 1 w:=by
 obtain⟨i0,hi,hz0,hz1,hz2⟩:=info_parts Zgv;rw[show Tryz.prog.elem 52=3 by kernel_rfl,run_sizeOf w hi];unfold Program.cellsOf;rw[hi];simp[hz1]
theorem Zqp (w:World) (A:Option Addr) (n c p:Nat) (hp:p<=n):(Instr.slice 52 (.slice A n c) (some (.int .i64 p)) none none).run Tryz.prog w=.ok (.slice (Zak A p c) (n-p) (c-p)) w:=by
 rw[run_slice_l (P:=Tryz.prog) (w:=w) 52 A n c Tryz.underlying52 .i64 p (by omega) (by omega),Zzb];simp[Result.andThen,sliced,Zak]
theorem Zyj (l:List Int):∀ u∈l.map i64V,u.oneCell'=true:=by
 intro u hu;obtain⟨x,_,rfl⟩:=Yaz.1 hu;rfl
theorem Qfg {w:World} {A:Option Addr} {n:Nat} {l:List Int} (h:Src w A n (l.map i64V)) (p:Nat) (hp:p<=n):Src w A p ((l.take p).map i64V):=by
 have hl:l.length=n:=by have:=h.len;simpa using this
 refine⟨by simp;omega,λad e j u hu=>?_,λe=>by have:=h.nil e;omega⟩;rw[List.map_take,Yci]at hu;split at hu
 ·exact h.cells ad e j u hu
 ·cases hu
theorem Zov (w:World) (A:Option Addr) (n c p:Nat) (hp:p+2<=n):(Instr.slice 52 (.slice A n c) (some (.int .i64 ((p:Int)+2))) none none).run Tryz.prog w=.ok (.slice (Zak A (p+2) c) (n-(p+2)) (c-(p+2))) w:=by
 have h:=Zqp w A n c (p+2) hp;rw[show((p+2:Nat):Int)=(p:Int)+2 by omega]at h;exact h
def lenOf:Value->Nat| .slice _ n _=>n|_=>0
def Zc5 (s:Nm) (i k:Nat):List Int:=Zb6 (s.take i)++(match s[i]? with|some x=>if x.toNat<k then [(x.toNat:Int)] else []|none=>[])
theorem Zvb {s:Nm} {i n:Nat} {x:UInt8} (hx:s[i]?=some x) (hn:256<=n):Zc5 s i n=Zb6 (s.take (i+1)):=by
 unfold Zc5;have:=x.toNat_lt
 rw[hx,Ya5,hx];simp only;rw[Yag (by omega)];simp[Zb6]
theorem Zrl {s:Nm} {i:Nat}:Zc5 s i 0=Zb6 (s.take i):=by
 unfold Zc5;cases s[i]? with
 | none=>simp
 | some x=>simp
theorem Zpa {s:Nm} {i k:Nat} {x:UInt8} (hx:s[i]?=some x) (h:x.toNat≠k):Zc5 s i (k+1)=Zc5 s i k:=by
 unfold Zc5;rw[hx];simp only;by_cases h1:x.toNat<k
 ·rw[Yag h1,Yag (by omega)]
 ·rw[Yaf h1,Yaf (by omega)]
theorem Zvj {s:Nm} {i k:Nat} {x:UInt8} (hx:s[i]?=some x) (h:x.toNat=k):Zc5 s i (k+1)=Zc5 s i k++[(k:Int)]:=by
 unfold Zc5;rw[hx];simp only;rw[Yag (by omega),Yaf (by omega),List.append_nil,h]
theorem Zuy (s:Nm) (i k:Nat):(Zc5 s i k).length<=i+1:=by
 unfold Zc5;rw[Yaq,Za8,Ycc];cases s[i]? with
 | none=>simp;omega
 | some x=>
  simp only;split<;>simp<;>omega
theorem Zpg (w:World) (A B C:Option Addr) (n m ca cb p cc:Nat) (V:Voc) (l:List Int) (hV:VocSee w A B n m ca cb V) (hl:IntsIn w C p l) (hF:∀ x∈V.tok,x.length<=4096) (hp:p<=1099511627776):
  Calls Tryz.prog 42 #[.agg #[.slice A n ca,.slice B m cb],.slice C p cc] w (Zmy w (Zch V.tok l) (Zc8 V.tok l)):=by
 have HV:=Zh hV;have HL:=Zh hl;have HLL:=Zh hl.len;have hp63:p<=9223372036854775807:=hl.1;have hn63:n<=9223372036854775807:=hV.tok.fit;have HFt:Hid (Fits V.tok):=Zh λx hx=>by have:=hF x hx;omega
 have HF:=Zh hF;have HTL:=Zh hV.tok.len;obtain⟨W,hW⟩:=Ze (w.alloc (.cells #[.slice A n ca,.slice B m cb] 30));have hb0:Below w.heap.size w W:=by rw[hW];exact(Ybm _ w).alloc (Yar _) _
 have hbl:Blk W w.heap.size 30 #[.slice A n ca,.slice B m cb]:=by rw[hW];exact Blk.new _ _ _
 have HW:=Zh hW;have HB0:=Zh hb0;have HBL:=Zh hbl;obtain⟨R,hR⟩:=Ze (Zc8 V.tok l);obtain⟨T,hT⟩:=Ze (Zch V.tok l);rw[<- hR,<- hT];have HR:=Zh hR;have HT:=Zh hT;have hD:=Zpn W A B C n m ca cb p cc V l (hV.below hb0) (hl.below hb0) HFt.out;unfold vocV at hD;have HD:=Zh hD;have HDI:=Zh (Qd9 V.tok l);clear hV hl hF hW hb0 hbl hR hT hD;go_enter Tryz.func42,Tryz.ntmps42;go_wp2_with fail;rw[<- HW.out];refine HD.out.mono ?_;rintro e w1 ⟨v,rfl,ho,hb⟩;rw[HDI.out.2,<- HR.out];obtain⟨vA,vc,rfl⟩:=Zac ho;have HB1:=Zh (Zaa HB0.out hb HB0.out.size);have HBL1:=Zh (HBL.out.below hb HBL.out.lt);clear ho hb;by_cases hr:R=0
 ·subst hr
  have hTT:T=Zca V.tok l p:=by rw[HT.out];unfold Zch;rw[Yag HR.out.symm,HLL.out]
  have hT4:∀ j,j<=p->(Zbg V.tok l j).length<=4096:=λj hj=>by
   have h1:=Zfc V.tok l (a:=j) (b:=l.length) (by rw[HLL.out];exact hj);have h2:=Qa1 HR.out.symm;unfold decT at h2;omega
  have hin:∀ i∈l,Zft V.tok i:=by
   have h:=HR.out.symm;unfold Zc8 at h;split at h
   ·assumption
   ·omega
  have HTT:=Zh hTT;have HT4:=Zh hT4;have HIN:=Zh hin;clear hTT hT4 hin;go_wp2_with fail;obtain⟨i0,hi,hz0,hz1,hz2⟩:=info_parts Zgv;go_loopw [8,9,10] (λv a i wr=>∃ j:Nat,j<=p/\i=.int .i64 (j:Nat)/\a=.int .i64 ((Zbg V.tok l j).length:Nat)/\wr.ownsRow w1.heap.size 3 1 v j ((Zca V.tok l j).map i64V)/\Below w1.heap.size w1 wr) (λ_ _ i _=>p-(intOf i).toNat);case atStart=>exact⟨0,by omega,rfl,rfl,Yb2 _ _ _ _,Ybm _ _⟩
  case round=>
   obtain⟨j,hj,rfl,rfl,hv,hbr⟩:=hrel;obtain⟨A1,q1,rfl⟩:=Zac hv;rcases Yab j p with hlt|hge
   ·have c1:(j:Int)<(p:Int):=by omega
    have c2:(0:Int)<=(j:Int):=by omega
    obtain⟨ad,x,rfl,hx,lx,-,-⟩:=(HL.out.below HB1.out).at j hlt;obtain⟨t0,t1⟩:=HIN.out x (Ybz hx);obtain⟨t,rfl⟩:∃ t:Nat,x=t:=⟨x.toNat,by omega⟩
    have htn:t<n:=by have:=HTL.out;omega
    have hy:V.tok[t]?=some (V.tok[t]'(by omega)):=Yax _;obtain⟨y,hye⟩:=Ze (V.tok[t]'(by omega));rw[<- hye]at hy;obtain⟨adt,A',c',e1,tc,-,-⟩:=(HV.out.tok.below HB1.out).at_ t y hy;subst e1;obtain⟨X,hX⟩:∃ X,(Zbg V.tok l j).length=X:=⟨_,rfl⟩
    have hZ:(Zbg V.tok l (j+1)).length=X+y.length:=by
     rw[Zbg,Yaq,hX];congr 1;rw[Yaw,hx];unfold tokI;rw[Ybw,Yag ⟨t0,t1⟩,Yb3,Yaw,hy];rfl
    have hXp:X<=4096:=by have:=HT4.out j hj;omega
    have hy16:=HF.out y (Ybz hy);have hst:(Zca V.tok l (j+1)).map i64V=(Zca V.tok l j).map i64V++[.int .i64 (X:Int)]:=by rw[Zic,Ybe,hX];rfl
    have HZ:=Zh hZ;have HST:=Zh hst;have HOWN:=Zh hv;have HB:=Zh hbr;have TC:=Zh tc;have LX:=Zh lx;rw[hX];have g3:(t:Int)<(n:Int):=by omega
    have g4:(0:Int)<=(t:Int):=by omega
    clear hx lx t0 t1 hy hye tc hX hZ hst hv hbr;go_wp2_with (at_builtin;refine wpList_append_own_at _ rfl _ _ 52 rfl w1.heap.size 3 i0 (.int .i64 0) 1 8 Tryz.underlying52 hi hz0 hz1 hz2 rfl (by decide) _ j _ rfl (HOWN.out.alloc _) ⟨wr.heap.size,0,none⟩ 1 1 [.int .i64 (X:Int)] rfl rfl Zb9 (by simp[Value.oneCell']) (by unfold maxLen;omega) (by omega) (by simp;have:=HB.out.size;omega) ?_;intro v' w2 hown' hg2 hnil hloc;obtain⟨A2,c2,hv⟩:=Zac hown';rw[hv];clear hnil hloc;have HVV:=Zh hv;clear hv;have HOWN2:=Zh hown';have hb2:Below w1.heap.size wr w2:=(((Ybm _ wr).alloc HB.out.size _).grown hg2 (by simp;have:=HB.out.size;omega) (λk e=>(HOWN.out.lt k e).1));have HB2:=Zh (HB.out.trans hb2);clear hown' hg2 hb2);have laq:∀ r,(w2.drewN r).cell? (ad.add j)=some (.int .i64 (t:Nat)):=λ_=>(HB2.out.cell (Ycb w1 _ LX.out)).trans LX.out;have v0q:∀ r,(w2.drewN r).cell? ⟨w.heap.size,0,none⟩=some (.slice (some adt) n ca):=λ_=>(Zdy _ (HBL1.out.below HB2.out HBL1.out.lt)).1;have taq:∀ r,(w2.drewN r).cell? (adt.add t)=some (.slice A' y.length c'):=λ_=>(HB2.out.cell (Ycb w1 _ TC.out)).trans TC.out;have cw:IntKind.i64.wrap ((X:Int)+(y.length:Int))=(X:Int)+(y.length:Int):=by rw[IntKind.wrap_i64];omega
    go_quiet (fail);clear cw;go_wp2_with fail;go_roundw;case rel=>exact⟨j+1,by omega,by go_num,by rw[HZ.out];congr 1,by rw[HST.out,<- HVV.out];exact HOWN2.out,Zaf HB2.out _⟩
    case measure=>simp[intOf];omega
   ·obtain rfl:j=p:=by omega
    have c1:¬ (j:Int)<(j:Int):=by omega
    have HVV:=Zh hv;have HBR:=Zh (Zaa HB1.out hbr HB1.out.size);clear hv hbr;go_wp2_with fail;go_ret2;refine⟨_,rfl,?_,HBR.out⟩;rw[HTT.out,Zew];exact Zf5 HVV.out HB1.out.size
 ·have d0:(R != 0)=true:=by simpa using hr
  have hTT:T=[]:=by rw[HT.out];unfold Zch;rw[Yaf (by rw[<- HR.out];exact hr)]
  clear hr;go_wp2_with fail;go_ret2;rw[hTT];exact⟨_,rfl,Yb2 _ _ _ _,HB1.out⟩
theorem Zoa (w:World) (A B C:Option Addr) (n m ca cb p cc:Nat) (V:Voc) (s:Nm) (hV:VocSee w A B n m ca cb V) (hO:VOk V) (hs:BytesIn w C p s):
  Calls Tryz.prog 41 #[.agg #[.slice A n ca,.slice B m cb],.slice C p cc] w (Zmy w (encR V.mer s) (encE s)):=by
 have hsl:s.length=p:=by have:=hs.2.1.len;simpa using this
 have hp63:p<=9223372036854775807:=hs.1;have HV:=Zh hV;have HS:=Zh hs;have HO:=Zh hO;have HSL:=Zh hsl;have HTL:=Zh hV.tok.len;have HML:=Zh hV.mer.len;have hn512:n<=512:=by have:=hO.tl;have:=hV.tok.len;omega
 have hm512:m<=512:=by have:=hO.ml;have:=hV.mer.len;omega
 have hn256:256<=n:=by have:=hO.long;have:=hV.tok.len;omega
 obtain⟨W,hW⟩:=Ze (w.alloc (.cells #[.slice A n ca,.slice B m cb] 30));have hb0:Below w.heap.size w W:=by rw[hW];exact(Ybm _ w).alloc (Yar _) _
 have hbl:Blk W w.heap.size 30 #[.slice A n ca,.slice B m cb]:=by rw[hW];exact Blk.new _ _ _
 have HW:=Zh hW;have HB0:=Zh hb0;have HBL:=Zh hbl;obtain⟨R,hR⟩:=Ze (encE s);obtain⟨T,hT⟩:=Ze (encR V.mer s);rw[<- hR,<- hT];have HR:=Zh hR;have HT:=Zh hT;obtain⟨i0,hi,hz0,hz1,hz2⟩:=info_parts Zgv;clear hV hO hs hsl hW hb0 hbl hR hT;go_enter Tryz.func41,Tryz.ntmps41;rcases Yab 4096 p with hbig|hsm
 ·have d0:(4096:Int)<(p:Int):=by omega
  have hT0:T=[]:=by rw[HT.out];unfold encR;rw[Yag (by rw[HSL.out];exact hbig)]
  have hR0:R=2:=by rw[HR.out];unfold encE;rw[Yag (by rw[HSL.out];exact hbig)]
  go_wp2_with fail;rw[<- HW.out];go_ret2;rw[hT0,hR0];exact⟨_,rfl,Yb2 _ _ _ _,HB0.out⟩
 have d0:¬ (4096:Int)<(p:Int):=by omega
 have hR0:R=0:=by rw[HR.out];exact Qej (by rw[HSL.out];exact hsm)
 have hT0:T=encL V.mer s:=by rw[HT.out];exact Znq (by rw[HSL.out];exact hsm)
 have HR0:=Zh hR0;have HT0:=Zh hT0;clear hR0 hT0;go_wp2_with fail;rw[<- HW.out];go_loopw [6,7] (λv i wr=>∃ j:Nat,j<=p/\i=.int .i64 (j:Nat)/\wr.ownsRow W.heap.size 3 1 v j ((Zb6 (s.take j)).map i64V)/\Below W.heap.size W wr) (λ_ i _=>p-(intOf i).toNat);case atStart=>exact⟨0,by omega,rfl,Yb2 _ _ _ _,Ybm _ _⟩
 case round=>
  obtain⟨j,hj,rfl,hv,hbr⟩:=hrel;obtain⟨A1,q1,rfl⟩:=Zac hv;rcases Yab j p with hlt|hge
  ·have c1:(j:Int)<(p:Int):=by omega
   have c2:(0:Int)<=(j:Int):=by omega
   obtain⟨ads,x,rfl,hx,lx⟩:=(HS.out.below HB0.out).at j hlt;have HX:=Zh hx;have LX:=Zh lx;have HOWN:=Zh hv;have HB:=Zh hbr;have hx256:=x.toNat_lt;clear hx lx hv hbr;go_wp2_with fail;go_loopw [6,8] (λv i wr=>∃ k:Nat,k<=n/\i=.int .i64 (k:Nat)/\wr.ownsRow W.heap.size 3 1 v (Zc5 s j k).length ((Zc5 s j k).map i64V)/\Below W.heap.size W wr) (λ_ i _=>n-(intOf i).toNat);case atStart=>exact⟨0,by omega,rfl,by rw[Zrl,Za8,Ycc,Yb7 (by rw[HSL.out];exact hj)];exact HOWN.out,HB.out⟩
   case round=>
    obtain⟨k,hk,rfl,hv,hbr⟩:=hrel;obtain⟨A2,q2,rfl⟩:=Zac hv;have HV2:=Zh hv;have HBR:=Zh hbr;have b0:wr.cell? ⟨w.heap.size,0,none⟩=some (.slice A n ca):=(Zdy _ (HBL.out.below hbr HBL.out.lt)).1;have hl2:=Zuy s j k;clear hv hbr;rcases Yab k n with hlk|hgk
    ·have c3:(k:Int)<(n:Int):=by omega
     have c4:(0:Int)<=(k:Int):=by omega
     have hy:V.tok[k]?=some (V.tok[k]'(by rw[HTL.out];exact hlk)):=Yax _;obtain⟨y,hye⟩:=Ze (V.tok[k]'(by rw[HTL.out];exact hlk));rw[<- hye]at hy;obtain⟨adt,A',c',e1,tc,_,tb⟩:=(HV.out.tok.below (Zaa HB0.out HBR.out HB0.out.size)).at_ k y hy;subst e1;have lxq:∀ r,(wr.drewN r).cell? (ads.add j)=some (.int .u8 (x.toNat:Int)):=λ_=>Zag HBR.out LX.out;have b0q:∀ r,(wr.drewN r).cell? ⟨w.heap.size,0,none⟩=some (.slice (some adt) n ca):=λ_=>b0;have tcq:∀ r,(wr.drewN r).cell? (adt.add k)=some (.slice A' y.length c'):=λ_=>tc;by_cases h1:y.length=1
     ·obtain⟨hk256,hyy⟩:=Zgi HO.out hy h1
      obtain⟨adb,z,e1,hz,zc⟩:=tb.at 0 (by omega);subst e1;have hzk:z.toNat=k:=by
       rw[hyy]at hz;simp at hz;rw[<- hz];exact Yaa (by show _<256;omega)
      rw[hzk]at zc;have zc0:wr.cell? adb=some (.int .u8 (k:Int)):=by simpa[Addr.add]using zc
      have zcq:∀ r,(wr.drewN r).cell? adb=some (.int .u8 (k:Int)):=λ_=>zc0;have zcq':∀ r,(wr.drewN r).cell? (adb.add 0)=some (.int .u8 (k:Int)):=λ_=>zc;have f1:((y.length:Int)==1)=true:=by rw[h1];rfl
      have f0:(0:Int)<(y.length:Int):=by omega
      have f0':0<y.length:=by omega
      by_cases hxk:x.toNat=k
      ·have f2:((k:Int)==(x.toNat:Int))=true:=by simp;omega
       have HXY:=Zh (Zvj (s:=s) (i:=j) (k:=k) HX.out hxk);clear hy hye tb tc h1 hk256 hyy hz hzk zc zc0 hxk;go_wp2_with fail;clear b0;go_quiet (fail);obtain⟨u,hu⟩:=Ze (wr.drewN nq);rw[<- hu];have HV3:Hid (u.ownsRow W.heap.size 3 1 (.slice A2 (Zc5 s j k).length q2) (Zc5 s j k).length ((Zc5 s j k).map i64V)):=Zh (by rw[hu];exact HV2.out);have HB3:Hid (Below W.heap.size W u):=Zh (by rw[hu];exact Zaf HBR.out _);clear hu lxq b0q tcq zcq zcq';go_wp2_with (at_builtin;refine wpList_append_own_at _ rfl _ _ 52 rfl W.heap.size 3 i0 (.int .i64 0) 1 8 Tryz.underlying52 hi hz0 hz1 hz2 rfl (by decide) _ (Zc5 s j k).length _ rfl (HV3.out.alloc _) ⟨u.heap.size,0,none⟩ 1 1 [.int .i64 (k:Int)] rfl rfl Zb9 (by simp[Value.oneCell']) (by unfold maxLen;omega) (by omega) (by simp;have:=HB3.out.size;omega) ?_;intro v' w2 hown' hg2 hnil hloc;obtain⟨A3,q3,hv⟩:=Zac hown';rw[hv];clear hnil hloc;have HVV:=Zh hv;clear hv;have HOWN2:=Zh hown';have hb2:Below W.heap.size u w2:=(((Ybm _ u).alloc HB3.out.size _).grown hg2 (by simp;have:=HB3.out.size;omega) (λk e=>(HV3.out.lt k e).1));have HB2:=Zh (HB3.out.trans hb2);clear hown' hg2 hb2);have hlen:(Zc5 s j (k+1)).length=(Zc5 s j k).length+1:=by rw[HXY.out,Yaq];rfl
       go_roundw;case rel=>
        refine⟨k+1,by omega,by go_num,?_,HB2.out⟩;rw[hlen,HXY.out,Ybe,<- HVV.out];exact HOWN2.out
       case measure=>simp[intOf];omega
      ·have f2:((k:Int)==(x.toNat:Int))=false:=by simp;omega
       have HXY:=Zh (Zpa (s:=s) (i:=j) (k:=k) HX.out hxk);clear hy hye tb tc h1 hk256 hyy hz hzk zc zc0 hxk;go_wp2_with fail;clear b0;go_quiet (fail);go_wp2;exact⟨⟨k+1,by omega,by go_num,by rw[HXY.out];exact HV2.out,Zaf HBR.out _⟩,by simp[intOf];omega⟩
     ·have f1:((y.length:Int)==1)=false:=by simp;omega
      have hxk:x.toNat≠k:=λe=>by
       have h2:=HO.out.single k (by omega);rw[hy]at h2;cases h2
       exact h1 rfl
      have HXY:=Zh (Zpa (s:=s) (i:=j) (k:=k) HX.out hxk);clear hy hye tb tc h1 hxk;go_wp2_with fail;clear b0;go_quiet (fail);go_wp2;exact⟨⟨k+1,by omega,by go_num,by rw[HXY.out];exact HV2.out,Zaf HBR.out _⟩,by simp[intOf];omega⟩
    ·obtain rfl:k=n:=by omega
     have c3:¬ (k:Int)<(k:Int):=by omega
     have hen:=Zvb HX.out hn256;go_wp2_with fail;go_roundw;case rel=>
      refine⟨j+1,by omega,by go_num,?_,HBR.out⟩;have h:=HV2.out;rw[hen,Za8,Ycc,Yb7 (by rw[HSL.out];omega)]at h;rw[hen,Za8,Ycc,Yb7 (by rw[HSL.out];omega)];exact h
     case measure=>simp[intOf];omega
  ·obtain rfl:j=p:=by omega
   have c1:¬ (j:Int)<(j:Int):=by omega
   have htk:s.take j=s:=by rw[<- HSL.out,Ya6]
   rw[htk]at hv;have HV2:=Zh hv;have HBR:=Zh hbr;clear hv hbr htk;have hbn:(Zb6 s).length=j:=by rw[Za8];exact HSL.out
   go_wp2_with fail;go_loopw [6] (λv wr=>∃ l:List Int,wr.ownsRow W.heap.size 3 1 v l.length (l.map i64V)/\Zfp V.mer l.length l=T/\l.length<=4096/\Below W.heap.size W wr) (λv _=>lenOf v);case atStart=>exact⟨Zb6 s,by rw[hbn];exact HV2.out,by rw[HT0.out,Za8];rfl,by rw[hbn];exact hsm,HBR.out⟩
   case round=>
    obtain⟨l,hv,hrun,hlen,hbr⟩:=hrel;obtain⟨A4,q4,rfl,hcap⟩:=Za0 hv;obtain⟨N,hN⟩:∃ N,l.length=N:=⟨_,rfl⟩
    rw[hN]at hv hrun hlen hcap ⊢;have HVL:=Zh hv;have HRUN:=Zh hrun;have HBR4:=Zh hbr;have HNN:=Zh hN;obtain⟨_,b1⟩:=Zdy _ (HBL.out.below hbr HBL.out.lt);have HB1:=Zh b1;clear hv hrun hbr hN;go_wp2_with fail;clear b1;go_loopw [9,10,11] (λbe t i w2=>∃ j q:Nat,i=.int .i64 (j:Nat)/\j<=N-1/\be=.int .i64 (bk V.mer l j:Nat)/\t=.int .i64 (ba V.mer l j)/\w2=wr.drewN q) (λ_ _ i _=>N-(intOf i).toNat);case atStart=>exact⟨0,0,rfl,by omega,by rw[<- HML.out];rfl,rfl,rfl⟩
    case round=>
     obtain⟨j,q,rfl,hj,rfl,rfl,rfl⟩:=hrel;rcases Yab (j+1) N with hlt|hge
     ·have c1:(j:Int)+1<(N:Int):=by omega
      have hbm:=Qfl V.mer l j;rw[HML.out]at hbm;go_wp2_with fail;go_loopw [9,10,12] (λbe t i w2=>∃ (k b q:Nat) (tt:Int),i=.int .i64 (k:Nat)/\be=.int .i64 (b:Nat)/\t=.int .i64 tt/\w2=wr.drewN q/\k<=m/\((b=bk V.mer l j/\tt=ba V.mer l j/\k<=b/\∀ (y:Nat) (x:Mg) (a a2:Int),y<k->V.mer[y]?=some x->l[j]?=some a->l[j+1]?=some a2->¬ (x.a=a/\x.b=a2))\/(Zb0 V.mer l j=some b/\b<bk V.mer l j/\tt=(j:Int)/\k=b+1))) (λ_ _ i _=>m+1-(intOf i).toNat);case atStart=>exact⟨0,_,q,_,rfl,rfl,rfl,rfl,Ybd _,.inl ⟨rfl,rfl,Ybd _,λy x a a2 hy=>by omega⟩⟩
      case round=>
       obtain⟨k,b,q',tt,rfl,rfl,rfl,rfl,hkm,hinv⟩:=hrel;rcases Yab k b with hlk|hgk
       ·obtain⟨hb,ht,hkb,hno⟩:b=bk V.mer l j/\tt=ba V.mer l j/\k<=b/\∀ (y:Nat) (x:Mg) (a a2:Int),y<k->V.mer[y]?=some x->l[j]?=some a->l[j+1]?=some a2->¬ (x.a=a/\x.b=a2):=by
         rcases hinv with h|h
         ·exact h
         ·omega
        have c2:(k:Int)<(b:Int):=by omega
        have c3:(0:Int)<=(k:Int):=by omega
        have c4:(0:Int)<=(j:Int):=by omega
        have c5:(j:Int)<(N:Int):=by omega
        have c6:(0:Int)<=(j:Int)+1:=by omega
        have hkM:k<V.mer.length:=by rw[HML.out];omega
        have c7:(k:Int)<(m:Int):=by have:=HML.out;omega
        have hx:V.mer[k]?=some (V.mer[k]'hkM):=Yax _;obtain⟨x,hxe⟩:=Ze (V.mer[k]'hkM);rw[<- hxe]at hx;obtain⟨am,e1,xa,xb,-⟩:=(HV.out.mer.below (Zaa HB0.out HBR4.out HB0.out.size)).at_ k x hx;subst e1;have ha:l[j]?=some (l[j]'(by rw[HNN.out];omega)):=Yax _;obtain⟨a,hae⟩:=Ze (l[j]'(by rw[HNN.out];omega));rw[<- hae]at ha;have ha2:l[j+1]?=some (l[j+1]'(by rw[HNN.out];omega)):=Yax _;obtain⟨a2,hae2⟩:=Ze (l[j+1]'(by rw[HNN.out];omega));rw[<- hae2]at ha2;have hown:=HVL.out;rw[<- HNN.out]at hown;obtain⟨ad,cx,e1,la,-⟩:=Zb2 hown ha;obtain⟨ad',cx',e2,lb,-⟩:=Zb2 hown ha2;simp only[Value.slice.injEq,true_and]at e1 e2;obtain⟨rfl,-⟩:=e1;obtain⟨e3,-⟩:=e2;cases e3
        have lb2:wr.cell? ⟨(ad.add j).block,(ad.add j).off+1,none⟩=some (.int .i64 a2):=by rw[<- Zcy ad j 1 (by omega)];exact lb
        have lb3:wr.cell? ⟨ad.block,ad.off+(j+1),none⟩=some (.int .i64 a2):=by simpa[Addr.add]using lb
        have laq:∀ r,(wr.drewN r).cell? (ad.add j)=some (.int .i64 a):=λ_=>la;have lbq:∀ r,(wr.drewN r).cell? (ad.add (j+1))=some (.int .i64 a2):=λ_=>lb;have lbq2:∀ r,(wr.drewN r).cell? ⟨(ad.add j).block,(ad.add j).off+1,none⟩=some (.int .i64 a2):=λ_=>lb2;have lbq3:∀ r,(wr.drewN r).cell? ⟨ad.block,ad.off+(j+1),none⟩=some (.int .i64 a2):=λ_=>lb3;have xaq:∀ r,(wr.drewN r).cell? (am.add (k*3))=some (.int .i64 x.a):=λ_=>xa;have xbq:∀ r,(wr.drewN r).cell? ⟨(am.add (k*3)).block,(am.add (k*3)).off+1,none⟩=some (.int .i64 x.b):=λ_=>xb;have m1q:∀ r,(wr.drewN r).cell? ⟨w.heap.size,1,none⟩=some (.slice (some am) m cb):=λ_=>HB1.out;have HNO:=Zh hno;have HX:=Zh hx;have HA:=Zh ha;have HA2:=Zh ha2;have HBK:=Zh hb;have HTT:=Zh ht;clear hinv hx hxe ha hae ha2 hae2 hown la lb lb2 lb3 xa xb hno hb ht;by_cases e1:x.a=a
        ·have f1:(x.a==a)=true:=by simpa using e1
         by_cases e2:x.b=a2
         ·have f2:(x.b==a2)=true:=by simpa using e2
          have HP:Hid (Zb0 V.mer l j=some k):=Zh (by
           rw[Zpq HA.out HA2.out];exact Zuv HX.out ⟨e1,e2⟩ (λy z hy hz=>HNO.out y z a a2 hy hz HA.out HA2.out))
          clear e1 e2;go_wp2_with fail;have cx:(j:Int)+1<(N:Int):=by omega
          have cn:((j:Int)+1).toNat=j+1:=by omega
          have cw:IntKind.i64.wrap ((j:Int)+1)=(j:Int)+1:=by rw[IntKind.wrap_i64];omega
          go_quiet (fail);clear cw cn cx;go_wp2;exact⟨⟨k+1,k,_,_,by go_num,rfl,rfl,rfl,by omega,.inr ⟨HP.out,by rw[<- HBK.out];exact hlk,rfl,rfl⟩⟩,by simp[intOf];omega⟩
         ·have f2:(x.b==a2)=false:=by simpa using e2
          have HNN2:Hid (∀ (y:Nat) (z:Mg) (a a2:Int),y<k+1->V.mer[y]?=some z->l[j]?=some a->l[j+1]?=some a2->¬ (z.a=a/\z.b=a2)):=Zh (λy z a a2 hy hz h1 h2=>by
           rcases Yab y k with h|h
           ·exact HNO.out y z a a2 h hz h1 h2
           ·obtain rfl:y=k:=by omega
            rw[HX.out]at hz;rw[HA.out]at h1;rw[HA2.out]at h2;cases hz
            cases h1
            cases h2
            exact λe=>e2 e.2)
          clear e1 e2;go_wp2_with fail;have cx:(j:Int)+1<(N:Int):=by omega
          have cn:((j:Int)+1).toNat=j+1:=by omega
          have cw:IntKind.i64.wrap ((j:Int)+1)=(j:Int)+1:=by rw[IntKind.wrap_i64];omega
          go_quiet (fail);clear cw cn cx;go_wp2;exact⟨⟨k+1,b,_,_,by go_num,rfl,rfl,rfl,by omega,.inl ⟨HBK.out,HTT.out,by omega,HNN2.out⟩⟩,by simp[intOf];omega⟩
        ·have f1:(x.a==a)=false:=by simpa using e1
         have HNN2:Hid (∀ (y:Nat) (z:Mg) (a a2:Int),y<k+1->V.mer[y]?=some z->l[j]?=some a->l[j+1]?=some a2->¬ (z.a=a/\z.b=a2)):=Zh (λy z a a2 hy hz h1 h2=>by
          rcases Yab y k with h|h
          ·exact HNO.out y z a a2 h hz h1 h2
          ·obtain rfl:y=k:=by omega
           rw[HX.out]at hz;rw[HA.out]at h1;cases hz
           cases h1
           exact λe=>e1 e.1)
         clear e1;go_wp2_with fail;go_quiet (fail);go_wp2;exact⟨⟨k+1,b,_,_,by go_num,rfl,rfl,rfl,by omega,.inl ⟨HBK.out,HTT.out,by omega,HNN2.out⟩⟩,by simp[intOf];omega⟩
       ·have c2:¬ (k:Int)<(b:Int):=by omega
        have hend:b=bk V.mer l (j+1)/\tt=ba V.mer l (j+1):=by
         rcases hinv with⟨hb,ht,hkb,hno⟩|⟨h1,h2,h3,h4⟩
         ·have hk:k=b:=by omega
          have h:=Qfk (M:=V.mer) (l:=l) (i:=j) (λr hr hrb=>by
           obtain⟨a,a2,h1,h2,h3⟩:=Zci hr;obtain⟨_,x,h4,h5,h6⟩:=Zf3 h3;exact hno r x a a2 (by omega) h4 h1 h2 ⟨h5,h6⟩)
          rw[h.1,h.2];exact⟨hb,ht⟩
         ·have h:=Qeu h1 h2
          rw[h.1,h.2];exact⟨rfl,h3⟩
        obtain⟨rfl,rfl⟩:=hend;clear hinv;go_wp2_with fail;go_roundw;case rel=>exact⟨j+1,q',by go_num,by omega,rfl,rfl,rfl⟩
        case measure=>simp[intOf];omega
     ·have c1:¬ (j:Int)+1<(N:Int):=by omega
      have hjN:j=l.length-1:=by rw[HNN.out];omega
      subst hjN;by_cases hneg:ba V.mer l (l.length-1)<0
      ·have hdone:=Zhm (Qfc hneg) N
       have hTl:T=l:=HRUN.out.symm.trans hdone;obtain⟨tt,htt⟩:∃ t,ba V.mer l (l.length-1)=t:=⟨_,rfl⟩
       rw[htt]at hneg ⊢;have HTL2:=Zh hTl;clear hdone hTl htt;go_wp2_with fail;go_ret2;rw[HTL2.out,HR0.out];refine⟨_,rfl,?_,Zaa HB0.out (Zaf HBR4.out q) HB0.out.size⟩;rw[HNN.out];exact Zf5 HVL.out HB0.out.size
      ·obtain⟨i,hit,hbest,hil,hbm⟩:=Qd1 hneg
       obtain⟨b,hbb⟩:∃ b,bk V.mer l (l.length-1)=b:=⟨_,rfl⟩
       rw[hbb]at hbest hbm ⊢;rw[hit];have hilN:i+2<=N:=by have:=HNN.out;omega
       have hx:V.mer[b]?=some (V.mer[b]'hbm):=Yax _;obtain⟨x,hxe⟩:=Ze (V.mer[b]'hbm);rw[<- hxe]at hx;have hto:toOf V.mer b=x.t:=by simp[toOf,Yaw,hx]
       obtain⟨f,hf⟩:∃ f,N=f+1:=⟨N-1,by omega⟩
       have hstep:=HRUN.out;rw[hf,Zhi hbest,hto]at hstep;have hml:(Za2 l i x.t).length=f:=by rw[Zeg hil,HNN.out,hf];omega
       obtain⟨u,hu⟩:=Ze (wr.drewN q);rw[<- hu];have HU:Hid (Below W.heap.size W u):=Zh (by rw[hu];exact Zaf HBR4.out q);have HOU:Hid (u.ownsRow W.heap.size 3 1 (.slice A4 N q4) N (l.map i64V)):=Zh (by rw[hu];exact HVL.out);have HF:=Zh hf;clear hf;have HX:=Zh hx;have HST:=Zh hstep;have HMLN:=Zh hml;have HILN:=Zh hilN;have g0:¬ (i:Int)<0:=by omega
       have g1:(0:Int)<=(i:Int):=by omega
       have g2:(i:Int)<=(q4:Int):=by omega
       have g3:i<=q4:=by omega
       have hbm':b<m:=by have:=HML.out;omega
       have g4:(b:Int)<(m:Int):=by omega
       have g5:(0:Int)<=(b:Int):=by omega
       have hle1:W.heap.size<=u.heap.size:=HU.out.size;clear hit hneg hbest hbb hx hxe hto hstep hu hil;go_wp2_with (at_builtin;refine Zae _ rfl (.tmp 100) (.tmp 103) 52 rfl u.heap.size 3 i0 (.int .i64 0) 8 Tryz.underlying52 hi hz0 hz1 hz2 rfl _ 0 [] rfl (Ybx u #[] 0 (Yar _) (Ybd _) rfl) A4 i q4 ((l.take i).map i64V) rfl (Qfg (Zbj (HOU.out.alloc _)) i (by have:=HILN.out;omega)) (Zyj _) (by unfold maxLen;have:=HILN.out;omega) (by have:=HILN.out;omega) (by simp) ?_;intro v' w5 hown5 hgrow5 hloc5;rw[Ya4,Yad]at hown5;obtain⟨A5,q5,rfl⟩:=Zac hown5;have HO5:=Zh hown5;have HU5:=Zh (((Ybm u.heap.size u).alloc (Yar _) (.cells #[] 3)).grown hgrow5 (by simp) (λk e=>by cases e;exact Yar _));have b1:=(Zdy _ (HBL.out.below (Zaa HU.out HU5.out HU.out.size) HBL.out.lt)).2;obtain⟨am,e1,-,-,mt⟩:=(HV.out.mer.below (Zaa HB0.out (Zaa HU.out HU5.out HU.out.size) HB0.out.size)).at_ b x HX.out;subst e1;clear hown5 hgrow5 hloc5;go_wp2_with (at_builtin;refine wpList_append_own_at _ rfl _ _ 52 rfl u.heap.size 3 i0 (.int .i64 0) 1 8 Tryz.underlying52 hi hz0 hz1 hz2 rfl (by decide) _ i _ rfl (HO5.out.alloc _) ⟨w5.heap.size,0,none⟩ 1 1 [.int .i64 x.t] rfl rfl Zb9 (by simp[Value.oneCell']) (by unfold maxLen;have:=HILN.out;omega) (by have:=HILN.out;omega) (by simp;have:=HU5.out.size;omega) ?_;intro v6 w6 hown6 hg6 hnil6 hloc6;obtain⟨A6,q6,rfl⟩:=Zac hown6;have HO6:=Zh hown6;have hb6:Below u.heap.size w5 w6:=(((Ybm _ w5).alloc HU5.out.size _).grown hg6 (by simp;have:=HU5.out.size;omega) (λk e=>(HO5.out.lt k e).1));have HU6:=Zh (HU5.out.trans hb6);have HOU6:Hid (w6.ownsRow W.heap.size 3 1 (.slice A4 N q4) N (l.map i64V)):=Zh (Zab HOU.out λg hg=>HU6.out.block g (HOU.out.lt g hg).2);have hsf:=Zov w6 A4 N q4 i HILN.out;clear hown6 hg6 hnil6 hloc6 hb6 b1 mt;go_wp2_with (at_builtin;refine Zae _ rfl (.tmp 114) (.tmp 118) 52 rfl u.heap.size 3 i0 (.int .i64 0) 8 Tryz.underlying52 hi hz0 hz1 hz2 rfl _ (i+1) _ rfl HO6.out (Zak A4 (i+2) q4) (N-(i+2)) (q4-(i+2)) ((l.drop (i+2)).map i64V) rfl (Qei (Zbj HOU6.out) hcap (i+2) HILN.out) (Zyj _) (by unfold maxLen;have:=HILN.out;omega) (by have:=HILN.out;omega) HU6.out.size ?_;intro v7 w7 hown7 hg7 hloc7;obtain⟨A7,q7,rfl⟩:=Zac hown7;have HO7:=Zh hown7;have HU7:=Zh (HU6.out.grown hg7 HU6.out.size (λk e=>(HO6.out.lt k e).1));clear hown7 hg7 hloc7 hsf;go_wp2_with fail)));have hlenE:i+1+(N-(i+2))=f:=by have:=HILN.out;have:=HF.out;omega
       have hmapE:(Za2 l i x.t).map i64V=(l.take i).map i64V++[.int .i64 x.t]++(l.drop (i+2)).map i64V:=by simp[Za2,i64V]
       have hfin:w7.ownsRow W.heap.size 3 1 (.slice A7 (i+1+(N-(i+2))) q7) (Za2 l i x.t).length ((Za2 l i x.t).map i64V):=by
        have h:=Zf5 HO7.out hle1;rw[HMLN.out,<- hlenE,hmapE];exact h
       go_roundw;case rel=>exact⟨Za2 l i x.t,hfin,by rw[HMLN.out];exact HST.out,by rw[HMLN.out];have:=HF.out;omega,Zaa HU.out HU7.out HU.out.size⟩
       case measure=>
        have:=HF.out
        have:=HILN.out
        simp[lenOf];omega
theorem Zko (x:Nm):Lib.strCells ⟨x.toArray⟩=x.map byteV:=by
 unfold Lib.strCells;rfl
theorem Zjo (w:World) (Av Bv A:Option Addr) (tn mn ca cb n c:Nat) (V:Voc) (l:List (Nm×Nm)) (hV:VocSee w Av Bv tn mn ca cb V) (hO:VOk V) (hl:DocsIn w A n l):
  Calls Tryz.prog 14 #[.agg #[.slice Av tn ca,.slice Bv mn cb],.slice A n c] w (SegOut w V l):=by
 have hb0:Below w.heap.size w (w.alloc (.cells #[.slice Av tn ca,.slice Bv mn cb] 30)):=(Ybm _ w).alloc (Yar _) _;have hbl:Blk (w.alloc (.cells #[.slice Av tn ca,.slice Bv mn cb] 30)) w.heap.size 30 #[.slice Av tn ca,.slice Bv mn cb]:=Blk.new _ _ _;obtain⟨w0,hw0⟩:=Ze (w.alloc (.cells #[.slice Av tn ca,.slice Bv mn cb] 30));rw[<- hw0]at hb0 hbl;have HV0:=Zh (hV.below hb0);have HL0:=Zh (hl.below hb0);have HN:=Zh hl.len;have hn63:n<=9223372036854775807:=hl.fit;have HVO:=Zh hO;have HB0:=Zh hb0;have HBL:=Zh hbl;have HW0:=Zh hw0;clear hV hl hO hb0 hbl hw0;obtain⟨i0,hi,hz0,hz1,hz2⟩:=info_parts Za9;unfold SegOut;by_cases hR:¬ Zb1 l
 ·have hD:decide (Zb1 l)=false:=Ybt hR
  simp only[Yaf hR];clear hR;go_enter Tryz.func14,Tryz.ntmps14;go_wp2_with fail;rw[<- HW0.out];refine(Zfv w0 A n c l HL0.out).mono ?_;rintro e w1 ⟨rfl,q,hq⟩;rw[hD];have hb1:Below w0.heap.size w0 w1:=by rw[hq];exact Zaf (Ybm _ _) _
  have HB1:=Zh (Zaa HB0.out hb1 HB0.out.size);clear hb1 hq hD;go_wp2;go_ret2;exact⟨rfl,HB1.out⟩
 have hR:=Classical.not_not.1 hR;have hD:decide (Zb1 l)=true:=Yb0 hR;simp only[Yag hR];have HR:=Zh hR;clear hR;go_enter Tryz.func14,Tryz.ntmps14;go_wp2_with fail;rw[<- HW0.out];refine(Zfv w0 A n c l HL0.out).mono ?_;rintro e w1 ⟨rfl,q,hq⟩;rw[hD];have hb1:Below w0.heap.size w0 w1:=by rw[hq];exact Zaf (Ybm _ _) _
 have HB1:=Zh (Zaa HB0.out hb1 HB0.out.size);have HV1:=Zh (HV0.out.below hb1);have HL1:=Zh (HL0.out.below hb1);have HBL1:=Zh (HBL.out.below hb1 HBL.out.lt);have hs01:=HBL1.out.lt;clear hb1 hq HW0 hD;have hn64:n<=64:=by have:=HR.out.1;have:=HN.out;omega
 have hm0:R12At (w1.alloc (.cells #[.slice none 0 0] 96)) (λi=>i=w1.heap.size) w1.heap.size []:=by
  refine⟨rfl,λi hi=>by subst hi;simp,.slice none 0 0,[],Blk.new _ _ _,rfl,Yb2 _ _ _ _,λg hg=>by simp[Value.ownBlock]at hg,λi p x hp=>by simp at hp⟩
 have HM0:=Zh hm0;obtain⟨b,hbb⟩:=Ze w1.heap.size;have HBX:=Zh ((Ybm w1.heap.size w1).alloc (Yar _) (.cells #[.slice none 0 0] 96));clear hm0;have hs1W:=HBX.out.size;go_wp2_with fail;obtain⟨W,hW⟩:=Ze (w1.alloc (.cells #[.slice none 0 0] 96));rw[<- hW]at HM0 HBX hs1W ⊢;rw[<- hbb]at HM0 ⊢;have HBB:=Zh hbb;clear hW hbb;go_loopw [7] (λi wr=>∃ (k:Nat) (G:Nat->Prop),k<=n/\i=.int .i64 k/\R12At wr G b (segM V l k)/\(∀ i,G i->w1.heap.size<=i)/\Below w1.heap.size w1 wr) (λi _=>n-(intOf i).toNat);case atStart=>exact⟨0,_,by omega,rfl,HM0.out,λi hi=>by rw[hi,HBB.out];exact Yar _,HBX.out⟩
 case round=>
  clear HM0 HBX hs1W;obtain⟨k,G,hk,rfl,hm,hg,hb⟩:=hrel;have HM:=Zh hm;have HG:=Zh hg;have HB:=Zh hb;have hsz:=hb.size;clear hm hg hb;rcases Yab k n with hlt|hge
  ·have hlt':(k:Int)<(n:Int):=by omega
   have p0:(0:Int)<=(k:Int):=by omega
   have hlr:=HL1.out.below HB.out;have HLR:=Zh hlr;obtain⟨pa,p,rfl,hp,-,-,-,hpt⟩:=hlr.at k hlt;clear hlr;have hdk:=HR.out.2.1 p (Ybz hp);obtain⟨pk,pt⟩:=p;have h4:pt.length<=4096:=hdk.2.2;have HP:=Zh hp;have HV:=Zh (HV1.out.below HB.out);clear hp hdk hpt;have HCE:Hid (∀ u,Below w1.heap.size w1 u->u.cell? ⟨w.heap.size,0,none⟩=some (.slice Av tn ca)/\u.cell? ⟨w.heap.size,1,none⟩=some (.slice Bv mn cb)/\u.cell? ⟨(pa.add (k*2)).block,(pa.add (k*2)).off+1,none⟩=some (.string ⟨pt.toArray⟩)):=Zh (λu hu=>by
    have h1:=Zdy _ (HBL1.out.below hu HBL1.out.lt);obtain⟨ad,p,e1,e2,-,e3,-,-⟩:=(HL1.out.below hu).at k hlt;cases e1
    have e4:=HP.out.symm.trans e2;cases e4
    exact⟨h1.1,h1.2,e3⟩)
   go_wp2_with fail;refine Yb8 (S:=λu=>u.cell? ⟨w.heap.size,0,none⟩=some (.slice Av tn ca)/\u.cell? ⟨w.heap.size,1,none⟩=some (.slice Bv mn cb)/\u.cell? ⟨(pa.add (k*2)).block,(pa.add (k*2)).off+1,none⟩=some (.string ⟨pt.toArray⟩)) (by kernel_rfl) ?_ (λhHeld=>?_)
   ·exact HCE.out _ HB.out.drew
   obtain⟨u0,hu0⟩:=Ze wr.drew;rw[<- hu0]at hHeld ⊢;have HU0:Hid (Below w1.heap.size w1 u0):=Zh (by rw[hu0];exact HB.out.drew);have HM0:Hid (R12At u0 G b (segM V l k)):=Zh (by rw[hu0];exact HM.out.below (Ybm _ wr).drew);have HV0:Hid (VocSee u0 Av Bv tn mn ca cb V):=Zh (by rw[hu0];exact HV.out.below (Ybm _ wr).drew);have hsu0:=HU0.out.size;clear hu0;obtain⟨cc,u1,hrun,hbc,hbi,hcc,-⟩:=Zcp u0 pt (by omega);have HBC:=Zh hbc;have HBI:=Zh hbi;have HB1':=Zh (HU0.out.trans (hbc.mono hsu0));clear hbc hbi;refine tk 0 ?_;(try simp only[Act.put,lz3,lz4,lz5]);refine tk 1 ?_;(try simp only[Act.put,lz3,lz4,lz5]);refine tk 2 ?_;(try simp only[Act.put,lz3,lz4,lz5]);refine tk 3 ?_;(try simp only[Act.put,lz3,lz4,lz5]);refine tk 4 ?_;(try simp only[Act.put,lz3,lz4,lz5]);refine tk 5 ?_;(try simp only[Act.put,lz3,lz4,lz5]);refine rd1 6 ?sa7;case sa7=>
    intro K hK;go_simp;have hRS:=HCE.out u1 HB1'.out;go_wp2_with fail;refine hK.out _ _ (HCE.out u1 HB1'.out) (λha8=>?_);clear hK K;(try simp only[Act.put,lz3,lz4,lz5]);refine rd1 7 ?sa9;case sa9=>
     intro K hK;go_simp;refine(Zoa u1 Av Bv (some ⟨u0.heap.size,0,none⟩) tn mn ca cb pt.length cc V pt (HV0.out.below HBC.out) HVO.out HBI.out).mono ?_;rintro e u2 ⟨vt,rfl,hO,hb⟩;have HO:=Zh hO;have HB2:=Zh hb;have HB02:=Zh (HB1'.out.trans (hb.mono HB1'.out.size));clear hO hb;go_wp2_with fail;refine hK.out _ _ (HCE.out u2 HB02.out) (λha10=>?_);clear hK K;(try simp only[Act.put,lz3,lz4,lz5]);refine tk 8 ?_;(try simp only[Act.put,lz3,lz4,lz5]);refine tk 9 ?_;(try simp only[Act.put,lz3,lz4,lz5]);refine tk 10 ?_;(try simp only[Act.put,lz3,lz4,lz5]);refine tk 11 ?_;(try simp only[Act.put,lz3,lz4,lz5]);refine tk 12 ?_;(try simp only[Act.put,lz3,lz4,lz5]);refine Yb9 (by kernel_rfl) ?_ _;obtain⟨tl,htl⟩:=Ze ((encR V.mer pt).length);have htm:tl<=4096:=by rw[htl];exact Zs0 _ _
     have hO2:=HO.out;rw[<- htl]at hO2;obtain⟨At,ct,rfl⟩:=Zac hO2;have HIT:Hid (IntsIn u2 At tl (encR V.mer pt)):=Zh (IntsIn.own hO2 (by unfold maxLen;omega) (λx hx=>by have:=(Zih HVO.out k (pk,pt)).1 x hx;omega));have HV2:=Zh (HV0.out.below (Zaa HBC.out HB2.out HBC.out.size));have HM2:=Zh (HM0.out.below (Zaa HBC.out HB2.out HBC.out.size));have HTL:=Zh htl;have hs2:=HB02.out.size;obtain⟨b0,b1,-⟩:=HCE.out u2 HB02.out;clear ha10 ha8 hRS hO2 htl hHeld hrun HO HB2 HBC HBI HB1' HV0 HM0 HU0;go_wp2_with fail;refine(Zpg u2 Av Bv At tn mn ca cb tl ct V (encR V.mer pt) HV2.out HIT.out (λx hx=>by have:=(HVO.out.short x hx).2;omega) (by omega)).mono ?_;rintro e u3 ⟨vs,rfl,hO3,hb3⟩;obtain⟨sl,hsl⟩:=Ze ((Zch V.tok (encR V.mer pt)).length);have hsm:sl<=4096:=by have:=Zkx (L:=V.tok) (l:=encR V.mer pt);have:=HTL.out;omega
     rw[<- hsl]at hO3;obtain⟨As,cs,rfl⟩:=Zac hO3;have HIS:Hid (IntsIn u3 As sl (Zch V.tok (encR V.mer pt))):=Zh (IntsIn.own hO3 (by unfold maxLen;omega) (λx hx=>by have:=Zhn _ _ x hx;omega));have HIT3:=Zh (HIT.out.below hb3);have HM3:=Zh (HM2.out.below hb3);have HB3:=Zh (HB02.out.trans (hb3.mono hs2));have hs3:=HB3.out.size;clear hO3 hb3 HIT HM2 HB02 hsl;go_wp2_with fail;refine(Zvi HM3.out (Znm HVO.out l (by have:=HN.out;omega)) (docM V k (pk,pt)) At As tl sl ct cs HIT3.out HIS.out ⟨by show(-9223372036854775808:Int)<=(k:Int);omega,by show(k:Int)<=9223372036854775807;omega⟩).mono ?_;rintro e u4 ⟨rfl,G4,hm4,hk4,hg4⟩;have HM4:Hid (R12At u4 G4 b (segM V l (k+1))):=Zh (by rw[Zkg HP.out];exact hm4);have HB4:Hid (Below w1.heap.size w1 u4):=Zh (HB3.out.trans (hk4.toBelow hs3 HG.out));have HG4:Hid (∀ i,G4 i->w1.heap.size<=i):=Zh (λi hi=>by
      rcases hg4 i hi with h|h
      ·exact HG.out i h
      ·omega)
     clear hm4 hk4 hg4;go_wp2;exact⟨⟨k+1,G4,by omega,by go_num,HM4.out,HG4.out,HB4.out⟩,by simp[intOf];omega⟩
  ·obtain rfl:k=n:=by omega
   have hlz:¬ ((k:Int)<(k:Int)):=by omega
   obtain⟨L,hL⟩:=Ze (segM V l k);rw[<- hL]at HM;have HMW:Hid (MWF L):=Zh (by rw[hL];exact Znm HVO.out l (by have:=HN.out;omega));have htot:totT L<=262144:=by have:=(Zsy V l k).1;rw[hL];omega
   have HLE:=Zh hL;clear hL;go_wp2_with fail;refine(Zo9 HM.out HMW.out (by omega)).mono ?_;rintro e x1 ⟨vt,rfl,hO,hb⟩;obtain⟨tl,htl⟩:=Ze ((Zas L).length);have htm:tl<=262144:=by rw[htl];exact Ybu (Zeh L) htot
   rw[<- htl]at hO;obtain⟨At,ct,rfl⟩:=Zac hO;have HIT:Hid (IntsIn x1 At tl (Zas L)):=Zh (IntsIn.own hO (by unfold maxLen;omega) (λx hx=>by have:=Ze1 HMW.out hx;omega));have HM1:=Zh (HM.out.below hb);have HB1':=Zh (HB.out.trans (hb.mono hsz));have HTL:=Zh htl;have hs1:=HB1'.out.size;have HLU:=Zh (HL1.out.below HB1'.out);clear hO hb htl;go_wp2_with fail;refine(Zcc x1 k (by omega)).mono ?_;rintro e x2 ⟨v2,rfl,hO2,hb2⟩;have hp1:=Zao k (by omega);have HO2:=Zh hO2;have HB2:=Zh hb2;clear hO2 hb2;go_wp2_with fail;refine(Zcc x2 tl (by omega)).mono ?_;rintro e x3 ⟨v3,rfl,hO3,hb3⟩;obtain⟨A3,c3,rfl⟩:=Zac hO3;have hp2:=Zao tl (by omega);have HO23:=Zh (Zab HO2.out λg hg=>hb3.block g (HO2.out.lt g hg).2);have HI3:=Zh (BytesIn.own hO3 (by unfold maxLen;omega));have HB13:=Zh (Zaa HB2.out hb3 HB2.out.size);have hs13:=HB13.out.size;clear hO3 hb3;go_wp2_with (at_builtin;refine Zae _ rfl (.tmp 59) (.tmp 63) 24 rfl x1.heap.size 5 i0 (.int .u8 0) 1 Tryz.underlying24 hi hz0 hz1 hz2 rfl _ (putL k).length ((putL k).map byteV) rfl HO23.out A3 (putL tl).length c3 ((putL tl).map byteV) rfl HI3.out.2.1 (Zbm (putL tl)) (by unfold maxLen;omega) (by omega) hs13 ?_;intro v4 x4 hown hgrow _;have HO4:=Zh hown;have HB4:Hid (Below x1.heap.size x1 x4):=Zh (HB13.out.grown hgrow hs13 (λg hg=>(HO23.out.lt g hg).1));obtain⟨A4,c4,hv4⟩:=Zac hown;subst hv4;clear hown hgrow);have ho4:=HO4.out;rw[<- Ybe]at ho4;refine(Zj5 x4 A4 _ c4 (putL k++putL tl) (BytesIn.own ho4 (by unfold maxLen;omega)) (by omega)).mono ?_;rintro e x5 ⟨v5,rfl,hO5,hb5⟩;obtain⟨H,hH⟩:=Ze (Zpw k tl);have hHl:H.length<=40:=by
    have h1:=Zhf (b:=putL k++putL tl) (by simp only[Yaq];omega);simp only[Yaq]at h1;rw[hH];unfold Zpw;omega
   have HO5:Hid (x5.ownsRow x1.heap.size 5 1 v5 H.length (H.map byteV)):=Zh (by rw[hH];exact Zf5 hO5 HB4.out.size);have HB5:=Zh (Zaa HB4.out hb5 HB4.out.size);have HH:=Zh hH;clear ho4 hO5 hb5 hH HO4 HB4 HO2 HB2 HO23 HI3 HB13 hs13 HM HG HB hsz;go_wp2_with fail;go_loopw [14,15] (λv i wr=>∃ j:Nat,j<=k/\i=.int .i64 j/\wr.ownsRow x1.heap.size 5 1 v (H++(l.take j).flatMap docF).length ((H++(l.take j).flatMap docF).map byteV)/\Below x1.heap.size x1 wr) (λ_ i _=>k-(intOf i).toNat);case atStart=>exact⟨0,by omega,rfl,by simpa using HO5.out,HB5.out⟩
   case round=>
    clear HO5 HB5;obtain⟨j,hj,rfl,ho,hb⟩:=hrel;obtain⟨Q,hQ⟩:=Ze (H++(l.take j).flatMap docF);rw[<- hQ]at ho;have hQl:Q.length<=268840:=by
     have h1:=Zi4 docF 4200 (l.take j) (λx hx=>Znf (HR.out.2.1 x (Yce hx)));have h2:(l.take j).length<=64:=by rw[Ycc];omega
     rw[hQ,Yaq];have:=Yak 4200 h2
     omega
    have HQ:=Zh hQ;have HO:=Zh ho;have HBW:=Zh hb;have hsw:=hb.size;clear ho hb hQ;rcases Yab j k with hjk|hge2
    ·have hjk':(j:Int)<(k:Int):=by omega
     have p0:(0:Int)<=(j:Int):=by omega
     obtain⟨pa,p,rfl,hp,-,-,-,-⟩:=(HLU.out.below HBW.out).at j hjk;have hdk:=HR.out.2.1 p (Ybz hp);obtain⟨pk,pt⟩:=p;have HDK:=Zh hdk;have hk1:pk.length<=32:=hdk.2.1;have hk2:pt.length<=4096:=hdk.2.2;have HP:=Zh hp;have HCE:Hid (∀ u,Below x1.heap.size x1 u->u.cell? (pa.add (j*2))=some (.string ⟨pk.toArray⟩)/\u.cell? ⟨(pa.add (j*2)).block,(pa.add (j*2)).off+1,none⟩=some (.string ⟨pt.toArray⟩)):=Zh (λu hu=>by
      obtain⟨ad,p,e1,e2,e3,e4,-,-⟩:=(HLU.out.below hu).at j hjk;cases e1
      have e5:=HP.out.symm.trans e2;cases e5
      exact⟨e3,e4⟩)
     obtain⟨ck,-⟩:=HCE.out wr HBW.out;have hfl:(docF (pk,pt)).length<=4200:=Znf hdk;have hp3:=Zao pk.length (by omega);have z1:=Zcb pk;have z2:=Zcb pt;clear hp hdk;go_wp2_with fail;refine(Zcc wr pk.length (by omega)).mono ?_;rintro e w6 ⟨v6,rfl,hO6,hb6⟩;have HO6:=Zh hO6;have HB6:=Zh (HBW.out.trans (hb6.mono hsw));have HBW6:=Zh hb6;have hs6:=hb6.size;obtain⟨ck6,-⟩:=HCE.out w6 HB6.out;clear ck hO6 hb6;go_wp2_with (first
      | (at_builtin;refine Lib.wpList_append_own_string _ rfl (.tmp 81) (.tmp 86) 24 9 rfl wr.heap.size 5 i0 Tryz.underlying24 Tryz.underlying9 hi hz0 hz1 hz2 _ _ _ rfl HO6.out ⟨pk.toArray⟩ rfl (by rw[Zcb];unfold maxLen;omega) (by rw[Zcb];omega) hs6 ?_;intro v7 w7 hown hgrow _;rw[Zcb,Zko]at hown;have HO7:=Zh hown;have HB7:Hid (Below wr.heap.size wr w7):=Zh (HBW6.out.grown hgrow hs6 (λg hg=>(HO6.out.lt g hg).1));have hs7:=HB7.out.size;obtain⟨-,ct7⟩:=HCE.out w7 (HBW.out.trans (HB7.out.mono hsw));clear hown hgrow ck6)
      | (at_builtin;refine Lib.wpList_append_own_string _ rfl (.tmp 88) (.tmp 93) 24 9 rfl wr.heap.size 5 i0 Tryz.underlying24 Tryz.underlying9 hi hz0 hz1 hz2 _ _ _ rfl HO7.out ⟨pt.toArray⟩ rfl (by rw[Zcb];unfold maxLen;omega) (by rw[Zcb];omega) hs7 ?_;intro v8 w8 hown hgrow _;rw[Zcb,Zko]at hown;have HO8:=Zh hown;have HB8:Hid (Below wr.heap.size wr w8):=Zh (HB7.out.grown hgrow hs7 (λg hg=>(HO7.out.lt g hg).1));obtain⟨A8,c8,hv8⟩:=Zac hown;subst hv8;clear hown hgrow ct7))
     have ho8:=HO8.out;rw[<- Ybe,<- Ybe]at ho8;refine(Zj5 w8 A8 _ c8 (putL pk.length++pk++pt) (BytesIn.own ho8 (by unfold maxLen;omega)) (by omega)).mono ?_;rintro e w9 ⟨v9,rfl,hO9,hb9⟩;obtain⟨Y,hY⟩:=Ze (docF (pk,pt));have hO9:w9.ownsRow w8.heap.size 5 1 v9 Y.length (Y.map byteV):=by rw[hY];exact hO9
     rw[<- hY]at hfl;obtain⟨A9,c9,rfl⟩:=Zac hO9;have HY:=Zh hY;have HI9:Hid (BytesIn w9 A9 Y.length Y):=Zh (BytesIn.own hO9 (by unfold maxLen;omega));have hb89:=Zaa HB8.out hb9 HB8.out.size;have HOQ:=Zh (Zab HO.out λg hg=>hb89.block g (HO.out.lt g hg).2);have HB9:=Zh (HBW.out.trans (hb89.mono hsw));have hs9:=HB9.out.size;clear ho8 hY hO9 hb9 hb89 HO8 HB8 HO7 HB7 HO6 HB6 HBW6 HO hs7 hs6;go_wp2_with (at_builtin;refine Zae _ rfl (.tmp 95) (.tmp 97) 24 rfl x1.heap.size 5 i0 (.int .u8 0) 1 Tryz.underlying24 hi hz0 hz1 hz2 rfl _ Q.length (Q.map byteV) rfl HOQ.out A9 Y.length c9 (Y.map byteV) rfl HI9.out.2.1 (Zbm Y) (by unfold maxLen;omega) (by omega) hs9 ?_;intro v10 w10 hown hgrow _;have HO10:=Zh hown;have HB10:Hid (Below x1.heap.size x1 w10):=Zh (HB9.out.grown hgrow hs9 (λg hg=>(HOQ.out.lt g hg).1));clear hown hgrow);exact⟨⟨j+1,by omega,by go_num,by rw[Zh6 docF HP.out,<- Yao,<- HQ.out,<- HY.out,Yaq,Ybe];exact HO10.out,HB10.out⟩,by simp[intOf];omega⟩
    ·obtain rfl:j=k:=by omega
     have hlz2:¬ ((j:Int)<(j:Int)):=by omega
     have hQ2:Q=H++l.flatMap docF:=by rw[HQ.out,Yav (by rw[HN.out];exact Yar _)]
     have HQ2:=Zh hQ2;clear hQ2 HQ;go_wp2;go_loopw [14,17] (λv i wr=>∃ i':Nat,i'<=tl/\i=.int .i64 i'/\wr.ownsRow x1.heap.size 5 1 v (Q++((Zas L).take i').flatMap (Zfg L)).length ((Q++((Zas L).take i').flatMap (Zfg L)).map byteV)/\Below x1.heap.size x1 wr) (λ_ i _=>tl-(intOf i).toNat);case atStart=>exact⟨0,by omega,rfl,by simpa using HO.out,HBW.out⟩
     case round=>
      clear HO HBW hsw;obtain⟨i,hi',rfl,ho,hb⟩:=hrel;obtain⟨P,hP⟩:=Ze (Q++((Zas L).take i).flatMap (Zfg L));rw[<- hP]at ho;have hPl:P.length<=268840+i*368803900:=by
       have h1:=Zi4 (Zfg L) 368803900 ((Zas L).take i) (λx hx=>Zmw HMW.out (Ze1 HMW.out (Yce hx)).2);have h2:((Zas L).take i).length<=i:=by rw[Ycc];omega
       rw[hP,Yaq];have:=Yak 368803900 h2
       omega
      have HP:=Zh hP;have HO:=Zh ho;have HBW:=Zh hb;have hsw:=hb.size;clear ho hb hP;rcases Yab i tl with hit|hge3
      ·have hit':(i:Int)<(tl:Int):=by omega
       have p0:(0:Int)<=(i:Int):=by omega
       obtain⟨pa,t,rfl,ht,ct0,-,-⟩:=(HIT.out.below HBW.out).at i hit;have hft:=Ze1 HMW.out (Ybz ht);obtain⟨tn',rfl⟩:∃ m:Nat,t=m:=⟨t.toNat,by omega⟩
       have HTT:=Zh ht;have htb:=Zns HMW.out hft.2;have htf:=Zmw HMW.out hft.2;have hpe:=Zv4 HMW.out (tn':Int);have hpt:=Zao tn' (by omega);clear ht;go_wp2_with fail;refine(Zpf (HM1.out.below HBW.out) HMW.out (tn':Int)).mono ?_;rintro e y1 ⟨vp,rfl,hpo,hb1⟩;obtain⟨pl,hpl⟩:=Ze ((Zax L (tn':Int)).length);have hplm:pl<=4096:=by
        have h1:=Zea L (tn':Int) L.length;have h2:=HMW.out.few;rw[hpl];unfold Zax;omega
       obtain⟨Ap,cp,rfl⟩:∃ A c,vp=.slice A pl c:=by
        obtain⟨R,h1,h2,h3⟩:=hpo;rw[hpl];exact Zac h2
       have HPS:=Zh (PostsO.see hpo hpl.symm (by unfold maxLen;omega));have HB1y:=Zh hb1;have hsy1:=hb1.size;clear hpo hb1 hpl;go_wp2_with fail;refine(Zoo y1 Ap pl cp (Zax L (tn':Int)) HPS.out (by omega)).mono ?_;rintro e y2 ⟨vb,rfl,hob,hb2⟩;obtain⟨E,hE⟩:=Ze (putE (Zax L (tn':Int)));rw[<- hE]at hob hpe;obtain⟨Ab,cb2,rfl⟩:=Zac hob;have HIB:=Zh (BytesIn.own hob (by unfold maxLen;omega));have HB2y:=Zh (Zaa HB1y.out hb2 hsy1);have hsy2:=HB2y.out.size;have HEE:=Zh hE;obtain⟨pa2,t2,e1,ht2,ct2,-,-⟩:=(HIT.out.below (HBW.out.trans (HB2y.out.mono hsw))).at i hit;cases e1
       have e2:=HTT.out.symm.trans ht2;cases e2
       clear hob hb2 hE ct0 ht2;go_wp2_with fail;refine(Zcc y2 tn' (by omega)).mono ?_;rintro e y3 ⟨v3,rfl,ho3,hb3⟩;have HO3:=Zh ho3;have HB23:=Zh hb3;have hsy3:=hb3.size;have HIB3:=Zh (HIB.out.below hb3);clear ho3 hb3 ct2;go_wp2_with (at_builtin;refine Zae _ rfl (.tmp 120) (.tmp 121) 24 rfl y2.heap.size 5 i0 (.int .u8 0) 1 Tryz.underlying24 hi hz0 hz1 hz2 rfl _ (putL tn').length ((putL tn').map byteV) rfl HO3.out Ab E.length cb2 (E.map byteV) rfl HIB3.out.2.1 (Zbm E) (by unfold maxLen;omega) (by omega) hsy3 ?_;intro v4 y4 hown hgrow _;have HO4:=Zh hown;have HB4:Hid (Below y2.heap.size y2 y4):=Zh (HB23.out.grown hgrow hsy3 (λg hg=>(HO3.out.lt g hg).1));obtain⟨A4',c4',hv4⟩:=Zac hown;subst hv4;clear hown hgrow);have ho4:=HO4.out;rw[<- Ybe]at ho4;have htb2:(putL tn'++E).length<=368803870:=by
        have h1:=htb;unfold Zd5 at h1;rw[HEE.out];exact h1
       refine(Zj5 y4 A4' _ c4' (putL tn'++E) (BytesIn.own ho4 (by rw[<- Yaq];unfold maxLen;omega)) (by rw[<- Yaq];omega)).mono ?_;rintro e y5 ⟨v5',rfl,ho5,hb5⟩;obtain⟨Y,hY⟩:=Ze (Zfg L (tn':Int));have ho5:y5.ownsRow y4.heap.size 5 1 v5' Y.length (Y.map byteV):=by
        rw[hY];unfold Zfg Zd5;rw[<- HEE.out];exact ho5
       rw[<- hY]at htf;obtain⟨A5,c5,rfl⟩:=Zac ho5;have HI5:Hid (BytesIn y5 A5 Y.length Y):=Zh (BytesIn.own ho5 (by unfold maxLen;omega));have hb25:=Zaa HB4.out hb5 HB4.out.size;have hb05:=Zaa HB2y.out hb25 hsy2;have HOP:=Zh (Zab HO.out λg hg=>hb05.block g (HO.out.lt g hg).2);have HB5y:=Zh (HBW.out.trans (hb05.mono hsw));have hsy5:=HB5y.out.size;have HY:=Zh hY;clear ho4 ho5 hb5 hb25 hb05 hY HO4 HB4 HO3 HB23 HIB3 HIB HPS htb htb2 hpe hpt;go_wp2_with (at_builtin;refine Zae _ rfl (.tmp 123) (.tmp 125) 24 rfl x1.heap.size 5 i0 (.int .u8 0) 1 Tryz.underlying24 hi hz0 hz1 hz2 rfl _ P.length (P.map byteV) rfl HOP.out A5 Y.length c5 (Y.map byteV) rfl HI5.out.2.1 (Zbm Y) (by unfold maxLen;omega) (by omega) hsy5 ?_;intro v10 w10 hown hgrow _;have HO10:=Zh hown;have HB10:Hid (Below x1.heap.size x1 w10):=Zh (HB5y.out.grown hgrow hsy5 (λg hg=>(HOP.out.lt g hg).1));clear hown hgrow);exact⟨⟨i+1,by omega,by go_num,by rw[Zh6 (Zfg L) HTT.out,<- Yao,<- HP.out,<- HY.out,Yaq,Ybe];exact HO10.out,HB10.out⟩,by simp[intOf];omega⟩
      ·obtain rfl:i=tl:=by omega
       have hlz3:¬ ((i:Int)<(i:Int)):=by omega
       go_wp2_with fail;go_ret2;have hfin:P=segB V l:=by
        unfold segB;rw[HN.out,<- HLE.out,HP.out,HQ2.out,HH.out,<- HTL.out,Yav (by rw[HTL.out];exact Yar _)]
       refine⟨_,rfl,?_,(HB1.out.trans ((HB1'.out.trans (HBW.out.mono hs1)).mono (HB1.out.size)))⟩;rw[<- hfin];exact Zf5 HO.out (Ybu HB1.out.size hs1)
def Zdt (p:Nm×Nm):List Value:=[.string ⟨p.1.toArray⟩,.string ⟨p.2.toArray⟩]
theorem Zte:∀ (l:List (Nm×Nm)) (i j:Nat) (p:Nm×Nm) (u:Value),l[i]?=some p->(Zdt p)[j]?=some u->(l.flatMap Zdt)[i*2+j]?=some u
 | [],i,j,p,u,h,_=>by simp at h
 | a :: r,0,j,p,u,h,h2=>by
  simp at h;subst h;rw[Yan,Yba (by have:=(Ybb.1 h2).1;omega)];simpa using h2
 | a :: r,i+1,j,p,u,h,h2=>by
  have hl:(Zdt a).length=2:=rfl;rw[Yan,Ybc (by omega),hl,show(i+1)*2+j-2=i*2+j by omega];exact Zte r i j p u (by simpa using h) h2
theorem zero_add (g k:Nat):(⟨g,0,none⟩:Addr).add k=⟨g,k,none⟩:=by
 unfold Addr.add;split
 ·rename_i h0;rw[h0]
 ·simp
theorem DocsIn.ofRow {w:World} {base n c:Nat} {e:TypeId} {A:Option Addr} {l:List (Nm×Nm)} (h:w.ownsRow base e 2 (.slice A n c) n (l.flatMap Zdt)) (hn:l.length=n) (h63:n<=maxLen) (hv:∀ p∈l,p.1.length<=maxLen/\p.2.length<=maxLen):DocsIn w A n l where
 len:=hn
 fit:=h63
 vals:=hv
 nil:=λe1=>by
  rcases h.2 with⟨_,h0⟩|⟨g,cap,cur,h1,_⟩
  ·exact h0
  ·rw[e1]at h1;cases h1
 cells:=λad e1 i p hp=>by
  subst e1;have hz:ad=⟨ad.block,0,none⟩:=by
   rcases h.2 with⟨h1,_⟩|⟨g,cap,cur,h1,_⟩
   ·cases h1
   ·cases h1;rfl
  have hc:=λj u (hj:(Zdt p)[j]?=some u)=>h.cells (g:=ad.block) rfl (i*2+j) u (Zte l i j p u hp hj);have c0:=hc 0 _ rfl;have c1:=hc 1 _ rfl;rw[hz,zero_add,zero_add];rw[zero_add]at c0 c1;exact⟨c0,c1⟩
structure RSegV (w:World) (G:Nat->Prop) (g:Nat) (vd vt:Value) (D:List (Nm×Nm)) (T:List (Int×List Pst)) (R:List (Int×Value)):Prop where
 here:G g
 lt:∀ i,G i->i<w.heap.size
 blk:Blk w g 120 #[vd,vt]
 dr:w.ownsRow 0 49 2 vd D.length (D.flatMap Zdt)
 rl:R.length=T.length
 tr:w.ownsRow 0 124 2 vt T.length (R.flatMap Zan)
 da:∀ i,vd.ownBlock=some i->G i/\i≠g/\vt.ownBlock≠some i
 ta:∀ i,vt.ownBlock=some i->G i/\i≠g
 at_:∀ (i:Nat) (p:Int×Value) (x:Int×List Pst),R[i]?=some p->T[i]?=some x->p.1=x.1/\Zaj x.1/\(∃ A c,p.2=.slice A x.2.length c/\x.2.length<=c)/\RPostsF w (λi=>G i/\i≠g/\vd.ownBlock≠some i/\vt.ownBlock≠some i) p.2 x.2
theorem RSegV.new (w:World):RSegV (w.alloc (.cells #[.slice none 0 0,.slice none 0 0] 120)) (λi=>i=w.heap.size) w.heap.size (.slice none 0 0) (.slice none 0 0) [] [] [] where
 here:=rfl
 lt:=λi hi=>by rw[hi];simp
 blk:=Blk.new _ _ _
 dr:=Yb2 _ _ _ _
 rl:=rfl
 tr:=Yb2 _ _ _ _
 da:=λi e=>by cases e
 ta:=λi e=>by cases e
 at_:=λi p x e _=>by simp at e
theorem RSegV.below {w w':World} {G:Nat->Prop} {g:Nat} {vd vt:Value} {D:List (Nm×Nm)} {T:List (Int×List Pst)} {R:List (Int×Value)} (h:RSegV w G g vd vt D T R) (hb:Below w.heap.size w w'):RSegV w' G g vd vt D T R where
 here:=h.here
 lt:=λi hi=>Ya7 (h.lt i hi) hb.size
 blk:=h.blk.below hb h.blk.lt
 dr:=Zab h.dr λi hi=>hb.block i (h.dr.lt i hi).2
 rl:=h.rl
 tr:=Zab h.tr λi hi=>hb.block i (h.tr.lt i hi).2
 da:=h.da
 ta:=h.ta
 at_:=λi p x e1 e2=>by
  obtain⟨q1,q2,q3,q4⟩:=h.at_ i p x e1 e2;exact⟨q1,q2,q3,q4.keep (λi hi hf=>⟨hb.block i hi,hf⟩) hb.size⟩
theorem RSegV.doc {w u u5:World} {G:Nat->Prop} {g:Nat} {vd vt v5:Value} {D:List (Nm×Nm)} {T:List (Int×List Pst)} {R:List (Int×Value)} (h:RSegV w G g vd vt D T R) (hb:Below w.heap.size w u) {x:Nm×Nm}
  (h8:u5.ownsRow 0 49 2 v5 (D.length+1) (D.flatMap Zdt++Zdt x)) (hg:u.grownBy u5 vd.ownBlock) (hl:v5.ownBlock=vd.ownBlock\/v5.ownBlock=some u.heap.size):
  RSegV (u5.setCell ⟨g,0,none⟩ v5) (λi=>G i\/(w.heap.size<=i/\i<u5.heap.size)) g v5 vt (D++[x]) T R/\Kept G w (u5.setCell ⟨g,0,none⟩ v5):=by
 have hgw:g<w.heap.size:=h.lt g h.here;have hs1:=hb.size;have hs2:=hg.size;have hsz:=Zai u5 ⟨g,0,none⟩ v5;have hvw:∀ i,vd.ownBlock=some i->i<w.heap.size:=λi e=>h.lt i (h.da i e).1;have hv5:∀ i,v5.ownBlock=some i->vd.ownBlock=some i\/i=u.heap.size:=λi e=>by
  rcases hl with hl|hl
  ·exact .inl (hl.symm.trans e)
  ·rw[hl]at e;cases e;exact .inr rfl
 have hset:∀ i,i≠g->(u5.setCell ⟨g,0,none⟩ v5).heap[i]?=u5.heap[i]?:=λi hi=>Yb5 u5 ⟨g,0,none⟩ v5 i hi;have hold:∀ i,i<w.heap.size->i≠g->vd.ownBlock≠some i->(u5.setCell ⟨g,0,none⟩ v5).heap[i]?=w.heap[i]?:=λi hi hne hnv=>by
  rw[hset i hne,hg.block i (by omega) (λe=>hnv e.symm),hb.block i hi]
 have hB5:Blk u5 g 120 #[vd,vt]:=(h.blk.below hb hgw).grown hg λe=>(h.da g e.symm).2.1 rfl;refine⟨⟨.inl h.here,λi hi=>by rcases hi with hi|hi;(have:=h.lt i hi;omega);omega,by simpa using hB5.set_ 0 v5,?_,h.rl,?_,λi e=>?_,λi e=>⟨.inl (h.ta i e).1,(h.ta i e).2⟩,λi p y e1 e2=>?_⟩,((Kept.below hb).grown hg λk e=>.inl (h.da k e).1).setCell (.inl h.here) v5⟩
 ·rw[Yaq,Yae,Ybg]
  refine Zab (by simpa using h8) λi e=>hset i ?_;rcases hv5 i e with h'|h'
  ·exact(h.da i h').2.1
  ·omega
 ·exact Zab h.tr λi e=>hold i (h.tr.lt i e).2 (h.ta i e).2 λe2=>(h.da i e2).2.2 e
 ·rcases hv5 i e with h'|h'
  ·exact⟨.inl (h.da i h').1,(h.da i h').2⟩
  ·have:=(h8.lt i e).2
   exact⟨.inr ⟨by omega,by omega⟩,by omega,λe2=>by have:=h.lt i (h.ta i e2).1;omega⟩
 ·obtain⟨q1,q2,q3,q4⟩:=h.at_ i p y e1 e2
  exact⟨q1,q2,q3,q4.keep (λi hi hf=>⟨hold i hi hf.2.1 hf.2.2.1,.inl hf.1,hf.2.1,λe=>by
   rcases hv5 i e with h'|h'
   ·exact hf.2.2.1 h'
   ·omega,hf.2.2.2⟩) (by omega)⟩
theorem RSegV.term {w u u5:World} {G:Nat->Prop} {g base:Nat} {vd vt v5 vp:Value} {D:List (Nm×Nm)} {T:List (Int×List Pst)} {R:List (Int×Value)} (h:RSegV w G g vd vt D T R) (hb:Below w.heap.size w u) {x:Int×List Pst}
  (hf:Zaj x.1) (hv:∃ A c,vp=.slice A x.2.length c/\x.2.length<=c) (hp:PostsO u base vp x.2) (hbase:w.heap.size<=base)
  (h8:u5.ownsRow 0 124 2 v5 (T.length+1) (R.flatMap Zan++Zan (x.1,vp))) (hg:u.grownBy u5 vt.ownBlock) (hl:v5.ownBlock=vt.ownBlock\/v5.ownBlock=some u.heap.size):
  RSegV (u5.setCell ⟨g,1,none⟩ v5) (λi=>G i\/(w.heap.size<=i/\i<u5.heap.size)) g vd v5 D (T++[x]) (R++[(x.1,vp)])/\Kept G w (u5.setCell ⟨g,1,none⟩ v5):=by
 have hgw:g<w.heap.size:=h.lt g h.here;have hs1:=hb.size;have hs2:=hg.size;have hsz:=Zai u5 ⟨g,1,none⟩ v5;have hv5:∀ i,v5.ownBlock=some i->vt.ownBlock=some i\/i=u.heap.size:=λi e=>by
  rcases hl with hl|hl
  ·exact .inl (hl.symm.trans e)
  ·rw[hl]at e;cases e;exact .inr rfl
 have hvw:∀ i,vt.ownBlock=some i->i<w.heap.size:=λi e=>h.lt i (h.ta i e).1;have hset:∀ i,i≠g->(u5.setCell ⟨g,1,none⟩ v5).heap[i]?=u5.heap[i]?:=λi hi=>Yb5 u5 ⟨g,1,none⟩ v5 i hi;have hold:∀ i,i<w.heap.size->i≠g->vt.ownBlock≠some i->(u5.setCell ⟨g,1,none⟩ v5).heap[i]?=w.heap[i]?:=λi hi hne hnv=>by
  rw[hset i hne,hg.block i (by omega) (λe=>hnv e.symm),hb.block i hi]
 have hnew:∀ i,w.heap.size<=i->i<u.heap.size->(u5.setCell ⟨g,1,none⟩ v5).heap[i]?=u.heap[i]?:=λi a1 a2=>by
  rw[hset i (by omega),hg.block i a2 λe=>by have:=hvw i e.symm;omega]
 have hB5:Blk u5 g 120 #[vd,vt]:=(h.blk.below hb hgw).grown hg λe=>(h.ta g e.symm).2 rfl;refine⟨⟨.inl h.here,λi hi=>by rcases hi with hi|hi;(have:=h.lt i hi;omega);omega,by simpa using hB5.set_ 1 v5,?_,by simp[h.rl],?_,λi e=>?_,λi e=>?_,λi p y e1 e2=>?_⟩,((Kept.below hb).grown hg λk e=>.inl (h.ta k e).1).setCell (.inl h.here) v5⟩
 ·exact Zab h.dr λi e=>hold i (h.dr.lt i e).2 (h.da i e).2.1 (h.da i e).2.2
 ·rw[Yaq,Yae,Ybg]
  refine Zab (by simpa using h8) λi e=>hset i ?_;rcases hv5 i e with h'|h'
  ·exact(h.ta i h').2
  ·omega
 ·refine⟨.inl (h.da i e).1,(h.da i e).2.1,λe2=>?_⟩
  rcases hv5 i e2 with h'|h'
  ·exact(h.da i e).2.2 h'
  ·have:=h.lt i (h.da i e).1;omega
 ·rcases hv5 i e with h'|h'
  ·exact⟨.inl (h.ta i h').1,(h.ta i h').2⟩
  ·have:=(h8.lt i e).2
   exact⟨.inr ⟨by omega,by omega⟩,by omega⟩
 ·rcases Yab i R.length with hi|hi
  ·rw[Yba hi]at e1
   rw[Yba (by have:=h.rl;omega)]at e2;obtain⟨q1,q2,q3,q4⟩:=h.at_ i p y e1 e2;exact⟨q1,q2,q3,q4.keep (λi hi hf=>⟨hold i hi hf.2.1 hf.2.2.2,.inl hf.1,hf.2.1,hf.2.2.1,λe=>by
    rcases hv5 i e with h'|h'
    ·exact hf.2.2.2 h'
    ·omega⟩) (by omega)⟩
  ·have hrl:=h.rl
   rw[Ybc hi]at e1;rw[Ybc (by omega)]at e2;have h0:i-R.length=0:=by
    have:=(Ybb.1 e1).1
    simp only[Yae]at this;omega
   rw[h0]at e1;rw[show i-T.length=0 by omega]at e2;obtain rfl:p=(x.1,vp):=by simpa using e1.symm
   obtain rfl:y=x:=by simpa using e2.symm
   refine⟨rfl,hf,hv,(hp.toF (G:=λi=>w.heap.size<=i) λi a1 _=>by omega).keep (λi hi hw=>⟨hnew i hw hi,.inr ⟨hw,by omega⟩,by omega,λe=>?_,λe=>?_⟩) (by omega)⟩
   ·have:=h.lt i (h.da i e).1;omega
   ·rcases hv5 i e with h'|h'
    ·have:=hvw i h';omega
    ·omega
theorem RSegV.see {w:World} {G:Nat->Prop} {g:Nat} {vd vt:Value} {D:List (Nm×Nm)} {T:List (Int×List Pst)} {R:List (Int×Value)} (h:RSegV w G g vd vt D T R) (hd:D.length<=maxLen) (ht:T.length<=maxLen) (hv:∀ p∈D,p.1.length<=maxLen/\p.2.length<=maxLen) (hp:∀ x∈T,x.2.length<=maxLen):Zrg w g D T:=by
 obtain⟨A,c,rfl⟩:=Zac h.dr;obtain⟨B,c2,rfl⟩:=Zac h.tr;refine⟨A,B,c,c2,h.blk,DocsIn.ofRow h.dr rfl hd hv,rfl,ht,λe=>?_,λad e i x hx=>?_⟩
 ·rcases h.tr.2 with⟨_,h3⟩|⟨g,cap,cur,h3,_⟩
  ·exact h3
  ·rw[e]at h3;cases h3
 ·subst e
  have hz:ad=⟨ad.block,0,none⟩:=by
   rcases h.tr.2 with⟨h3,_⟩|⟨g,cap,cur,h3,_⟩
   ·cases h3
   ·cases h3;rfl
  have hlt:=(Ybb.1 hx).1;obtain⟨p,hp'⟩:∃ p,R[i]?=some p:=⟨_,Yax (by have:=h.rl;omega)⟩
  obtain⟨q1,q2,⟨B',cc,q3,q4⟩,q5⟩:=h.at_ i p x hp' hx;have hc:=λj u (hj:(Zan p)[j]?=some u)=>h.tr.cells (g:=ad.block) rfl (i*2+j) u (Zok R i j p u hp' hj);have c0:=hc 0 _ rfl;have c1:=hc 1 _ rfl;rw[zero_add]at c0 c1;rw[q3]at q5;refine⟨q2,?_,B',cc,?_,q4,q5.see rfl (hp x (Ybz hx))⟩
  ·rw[hz,zero_add,<- q1];exact c0
  ·rw[hz,zero_add,<- q3];exact c1
theorem Qdd:(Tryz.prog.info? 49).map (λi=>(i.zero,i.size,i.bytes))=some (some (.agg #[.string ⟨#[]⟩,.string ⟨#[]⟩]),2,32):=by kernel_rfl
theorem Qah:(Tryz.prog.info? 124).map (λi=>(i.zero,i.size,i.bytes))=some (some (.agg #[.int .i64 0,.slice none 0 0]),2,32):=by kernel_rfl
theorem Zk7 {w:World} {g:Nat} {p:Nm×Nm} (h:Blk w g 49 #[.string ⟨p.1.toArray⟩,.string ⟨p.2.toArray⟩]):∀ (j:Nat) (u:Value),(Zdt p)[j]?=some u->w.cell? ((⟨g,0,none⟩:Addr).add j)=some u:=λj u hu=>by
 rw[zero_add]
 match j with
 | 0=>simp[Zdt]at hu;subst hu;exact h.cell 0
 | 1=>simp[Zdt]at hu;subst hu;exact h.cell 1
 | j+2=>simp[Zdt]at hu
theorem Zpt (p:Nm×Nm):∀ u∈Zdt p,u.oneCell'=true:=λu hu=>by
 simp[Zdt]at hu;rcases hu with rfl|rfl<;>rfl
def Znh (L:List Nm) (f:Nm):Option (List (Nm×Nm)×List (Int×List Pst)):=
 if (Zc2 f).2.2.e≠0\/0<Zbt (Zc2 f).2.2\/(L.length:Int)-1≠(Zc2 f).1+(Zc2 f).2.1 then none
 else match Zc7 L (Zc2 f).1.toNat with
  | none=>none
  | some D=>if Zb1 D then (Zbn L (Zc2 f).1.toNat (Zc2 f).2.1.toNat).map λT=>(D,T) else none
def Zyv (w:World) (r:Option (List (Nm×Nm)×List (Int×List Pst))) (e:Ending) (w':World):Prop:=
 Below w.heap.size w w'/\match r with
  | none=>e=.returned (.tuple #[.pointer none,.int .i64 3])
  | some x=>∃ g,e=.returned (.tuple #[.pointer (some ⟨g,0,none⟩),.int .i64 0])/\w.heap.size<=g/\Zrg w' g x.1 x.2
theorem Zfq {w w':World} {r:Option (List (Nm×Nm)×List (Int×List Pst))} (h:r=none) (hb:Below w.heap.size w w'):Zyv w r (.returned (.tuple #[.pointer none,.int .i64 3])) w':=by
 subst h;exact⟨hb,rfl⟩
theorem Zfe (w:World) (A:Option Addr) (n c:Nat) (b:Nm) (hb:BytesIn w A n b) (hc:n<=c) (hn:n<=1000000):
  Calls Tryz.prog 16 #[.slice A n c] w (Zyv w (Zh4 b)):=by
 have hbl:b.length=n:=by have:=hb.2.1.len;simpa using this
 obtain⟨i1,hi1,hy0,hy1,hy2⟩:=info_parts Qdd;obtain⟨i2,hi2,hx0,hx1,hx2⟩:=info_parts Qah;obtain⟨X,hX⟩:=Ze (Zh4 b);rw[<- hX];obtain⟨L,hL⟩:=Ze ((allF b).1);obtain⟨E,hE⟩:=Ze ((allF b).2);have hLn:L.length<=1000000:=by have:=Zpj b;rw[hL];omega
 have hLs:∀ x∈L,x.length<=262144:=by rw[hL];exact Zmk b
 unfold Zh4 at hX;rw[<- hL,<- hE]at hX;have HX:=Zh hX;have HLS:=Zh hLs;have HIN:=Zh hb;have hG:allF b=(L,E):=by rw[hL,hE]
 have HG:=Zh hG;clear hX hL hE hLs hb hG hbl;go_enter Tryz.func16,Tryz.ntmps16;go_wp2_with fail;refine(Zws w A n c b HIN.out hc (by omega)).mono ?_;rintro e w1 ⟨v,rfl,hrow,hb1⟩;rw[HG.out]at hrow;rw[HG.out];have hrow:RowsAt w1 w.heap.size v L:=hrow;obtain⟨Ar,nr,cr,rfl⟩:∃ A n c,v=.slice A n c:=by
  obtain⟨svs,h1,-⟩:=hrow;obtain⟨A,c,h⟩:=Zac h1;exact⟨A,_,c,h⟩
 obtain⟨hsee,hnr,hcr⟩:=hrow.see (by unfold maxLen;omega);subst hnr;have HS:=Zh hsee;have HB1:=Zh hb1;clear hrow hsee hb1 HG HIN;by_cases hE0:E=0;case neg=>
  have d0:(E != 0)=true:=by simpa using hE0
  have HN:=Zh (show X=none by rw[HX.out,Yag (.inl hE0)]);clear hE0;go_wp2;go_ret2;exact Zfq HN.out HB1.out
 subst hE0;by_cases hl0:L.length=0
 ·have HN:=Zh (show X=none by rw[HX.out,Yag (.inr hl0)])
  have d0:(((L.length:Nat):Int)==0)=true:=by simp[hl0]
  have d1:((L.length:Nat):Int)=0:=by omega
  clear hl0;go_wp2;go_ret2;exact Zfq HN.out HB1.out
 have d1:¬ ((L.length:Nat):Int)=0:=by omega
 have hpos:(0:Int)<((L.length:Nat):Int):=by omega
 have hX2:=HX.out;rw[Yaf (by simpa using hl0)]at hX2;obtain⟨f0,hf0⟩:∃ f,L[0]?=some f:=⟨_,Yax (by omega)⟩
 have hf0s:=HLS.out f0 (Ybz hf0);have hgd:L.getD 0 []=f0:=by rw[Yaw,hf0];rfl
 rw[hgd]at hX2;obtain⟨pa,B0,c0,rfl,hcell,hc0,hB0⟩:=HS.out.at_ 0 f0 hf0;rw[show pa.add 0=pa by simp[Addr.add]]at hcell;have HX2:=Zh hX2;have HBY:=Zh hB0;clear hX2 HX hgd hl0 hf0 hB0;go_wp2_with fail;refine(Zkf w1 B0 f0.length c0 f0 HBY.out (by omega)).mono ?_;rintro e w2 ⟨r,A',c',rfl,hr0,hR,hb2,hfar⟩;unfold at0;have hb12:=Zaa HB1.out hb2 HB1.out.size;have hs1:=HB1.out.size;have HB2:=Zh hb2;have HR:=Zh hR;have HLAY:=Zh (show Znh L f0=X from by rw[HX2.out];unfold Znh;rfl);clear hb2 hR hfar HX2 hb12 hcell hc0 HBY;go_wp2_with fail;refine(Zin w2 r ⟨f0,0,0⟩ A' c' HR.out 1073741824 (by omega) (by omega)).mono ?_;rintro e w3 ⟨rfl,hR3,hk3⟩;obtain⟨dn,hdn⟩:∃ m:Nat,(rInt ⟨f0,0,0⟩ 1073741824).1=m:=⟨(rInt ⟨f0,0,0⟩ 1073741824).1.toNat,by have:=(Zdo ⟨f0,0,0⟩ (m:=1073741824) (by omega)).1;omega⟩
 have hdm:dn<=1073741824:=by have:=(Zdo ⟨f0,0,0⟩ (m:=1073741824) (by omega)).2;omega
 obtain⟨s1,hs1e⟩:=Ze ((rInt ⟨f0,0,0⟩ 1073741824).2);rw[hdn];rw[<- hs1e]at hR3;have HR3:=Zh hR3;have HB3:=Zh (HB2.out.trans (hk3.toBelow HB2.out.size (λi hi=>by rw[hi];exact hr0)));have HD:=Zh hdn;have HS1:=Zh hs1e;clear hR3 hk3 hdn hs1e HR;go_wp2_with fail;refine(Zin w3 r s1 A' c' HR3.out 1073741824 (by omega) (by omega)).mono ?_;rintro e w4 ⟨rfl,hR4,hk4⟩;obtain⟨tn,htn⟩:∃ m:Nat,(rInt s1 1073741824).1=m:=⟨(rInt s1 1073741824).1.toNat,by have:=(Zdo s1 (m:=1073741824) (by omega)).1;omega⟩
 have htm:tn<=1073741824:=by have:=(Zdo s1 (m:=1073741824) (by omega)).2;omega
 obtain⟨s2,hs2e⟩:=Ze ((rInt s1 1073741824).2);rw[htn];rw[<- hs2e]at hR4;have HR4:=Zh hR4;have HB4:=Zh (HB3.out.trans (hk4.toBelow HB3.out.size (λi hi=>by rw[hi];exact hr0)));have hHG:Zc2 f0=((dn:Int),(tn:Int),s2):=by unfold Zc2;rw[HD.out,<- HS1.out,htn,hs2e]
 have HL4:=HLAY.out;unfold Znh at HL4;rw[hHG]at HL4;simp only[Yb3]at HL4;have HL5:=Zh HL4;have hcE:=hR4.blk.cell 2;simp only[lz0,lz1,lz2]at hcE;clear hR4 hk4 htn hs2e HR3 HL4 hHG HLAY HD HS1 HB2 HB3;have HBB:=Zh (Zaa HB1.out HB4.out hs1);by_cases he:s2.e=0;case neg=>
  have d0:(s2.e != 0)=true:=by simpa using he
  have HN:=Zh (show X=none by rw[<- HL5.out,Yag (.inl he)]);clear he;go_wp2;go_ret2;exact Zfq HN.out HBB.out
 have hl4:=Zir w4 r s2 A' c' HR4.out;have HLF:=Zh hl4;rw[he]at hcE;clear hl4;go_wp2_with fail;refine HLF.out.mono ?_;rintro e w5 ⟨rfl,q5,hq5⟩;obtain⟨lf,hlf⟩:=Ze (Zbt s2);rw[<- hlf];have hb5:Below w4.heap.size w4 w5:=by rw[hq5];exact Zaf (Ybm _ _) _
 have HB5:=Zh (Zaa HB4.out hb5 HB4.out.size);have HBB5:=Zh (Zaa HBB.out hb5 HBB.out.size);have HLF2:=Zh hlf;have HE:=Zh he;clear hb5 hq5 hlf HLF hcE he HBB HB4;by_cases hlf0:0<lf
 ·have z0:(0:Int)<(lf:Int):=by omega
  have HN:=Zh (show X=none by rw[<- HL5.out,Yag (.inr (.inl (by show 0<Zbt s2;rw[<- HLF2.out];exact hlf0)))]);clear hlf0;go_wp2;go_ret2;exact Zfq HN.out HBB5.out
 have z0:¬ (0:Int)<(lf:Int):=by omega
 by_cases hsum:(L.length:Int)-1≠(dn:Int)+(tn:Int)
 ·have d2:((((L.length:Nat):Int)-1) != ((dn:Int)+(tn:Int)))=true:=by simpa using hsum
  have HN:=Zh (show X=none by rw[<- HL5.out,Yag (.inr (.inr hsum))]);clear hlf0 hsum;go_wp2;go_ret2;exact Zfq HN.out HBB5.out
 have hsum2:L.length=dn+tn+1:=by omega
 have d2:((((L.length:Nat):Int)-1) != ((dn:Int)+(tn:Int)))=false:=by simp;omega
 have HX3:Hid (X=match Zc7 L dn with
  | none=>none
  | some D=>if Zb1 D then (Zbn L dn tn).map λT=>(D,T) else none):=Zh (by
   rw[<- HL5.out,Yaf (λh=>by
    rcases h with h|h|h
    ·exact h HE.out
    ·rw[<- HLF2.out]at h;omega
    ·exact hsum h)])
 clear hlf0 hsum HL5;have HNEW:=Zh (RSegV.new w5);have HA5:=Zh ((Ybm w5.heap.size w5).alloc (Yar _) (.cells #[.slice none 0 0,.slice none 0 0] 120));go_wp2_with fail;obtain⟨W,hW⟩:=Ze (w5.alloc (.cells #[.slice none 0 0,.slice none 0 0] 120));obtain⟨g,hg⟩:=Ze w5.heap.size;rw[<- hW]at HNEW HA5 ⊢;rw[<- hg]at HNEW ⊢;have HBW:=Zh (HB5.out.trans (HA5.out.mono HB5.out.size));have HGG:Hid (w1.heap.size<=g):=Zh (by rw[hg];exact HB5.out.size);have HFX:=Zh hsum2;clear hW hg HA5 HB5 HBB5 HE HLF2 HR4;go_loopw [10] (λi wr=>∃ (k:Nat) (G:Nat->Prop) (vd:Value) (D:List (Nm×Nm)),k<=dn/\i=.int .i64 k/\Zc7 L k=some D/\RSegV wr G g vd (.slice none 0 0) D [] []/\(∀ i,G i->w1.heap.size<=i)/\Below w1.heap.size w1 wr) (λi _=>dn-(intOf i).toNat);case atStart=>exact⟨0,_,_,[],by omega,rfl,rfl,HNEW.out,λi hi=>by rw[hi];exact HGG.out,HBW.out⟩
 case round=>
  clear HNEW HBW;obtain⟨k,G,vd,D,hk,rfl,hd,hv,hg,hb⟩:=hrel;obtain⟨Ad,cd,hvd⟩:=Zac hv.dr;subst hvd;have HDG:=Zh hd;have HV:=Zh hv;have HGN:=Zh hg;have HB:=Zh hb;have hsz:=hb.size;clear hd hv hg hb;rcases Yab k dn with hlt|hge
  ·have hlt':(k:Int)<(dn:Int):=by omega
   have p0:(0:Int)<=1+(k:Int):=by omega
   have p1:1+(k:Int)<(dn:Int)+(tn:Int)+1:=by omega
   obtain⟨f,hf⟩:∃ f,L[1+k]?=some f:=⟨_,Yax (by omega)⟩
   have hfs:=HLS.out f (Ybz hf);obtain⟨ad,B1,c1,e1,hcell,hcc,hB1⟩:=(HS.out.below HB.out).at_ (1+k) f hf;cases e1
   have HF:=Zh (show L.getD (1+k) []=f by rw[Yaw,hf];rfl);have HBY:=Zh hB1;have ek:(1+(k:Int)).toNat=1+k:=by omega
   clear hf hB1;go_wp2_with fail;refine(Zkf wr B1 f.length c1 f HBY.out (by omega)).mono ?_;rintro e v1 ⟨rb,A1,c1',rfl,hrb,hR1,hb1,-⟩;unfold at0;have HR1:=Zh hR1;have hrb1:rb<v1.heap.size:=hR1.blk.lt;have HW1:=Zh hb1;clear hR1 hb1 hcell hcc HBY;go_wp2_with fail;refine(Zvh v1 rb ⟨f,0,0⟩ A1 c1' HR1.out 32 (by omega) (by omega)).mono ?_;rintro e v2 ⟨vk,rfl,hok,hR2,hk2⟩;obtain⟨KY,hK⟩:=Ze ((Zek ⟨f,0,0⟩ 32).1);obtain⟨s1,hs1e⟩:=Ze ((Zek ⟨f,0,0⟩ 32).2);have hKl:KY.length<=262144:=by
    have h1:=(Zc3 (rInt ⟨f,0,0⟩ 32).2 (rInt ⟨f,0,0⟩ 32).1).1;rw[Zkw]at h1;have h2:(Zek ⟨f,0,0⟩ 32).1.length<=f.length:=h1;rw[hK];omega
   have hbs1:s1.bs=f:=by
    rw[hs1e];exact((Zc3 (rInt ⟨f,0,0⟩ 32).2 (rInt ⟨f,0,0⟩ 32).1).2).trans (Zkw _ _)
   rw[<- hK]at hok;rw[<- hs1e]at hR2;have hW2:Below wr.heap.size wr v2:=HW1.out.trans (hk2.toBelow HW1.out.size (λi hi=>by rw[hi];exact hrb));have HW2:=Zh hW2;have HR2:=Zh hR2;have HOK:=Zh hok;have hl2:=Zir v2 rb s1 A1 c1' hR2;have HLF:=Zh hl2;obtain⟨lf2,hlf2⟩:=Ze (Zbt s1);rw[<- hlf2]at HLF;have hlm:lf2<=262144:=by have:=Zm2 s1;rw[hbs1]at this;omega
   have HK':=Zh hK;have HS1e:=Zh hs1e;have HLF3:=Zh hlf2;have hv12:=hk2.size;obtain⟨Ak,ck,rfl⟩:=Zac hok;clear hok hR2 hk2 hK hs1e hlf2 hl2 HR1 hW2;go_wp2_with fail;refine HLF.out.mono ?_;rintro e v3 ⟨rfl,q3,hq3⟩;have hb3:Below v2.heap.size v2 v3:=by rw[hq3];exact Zaf (Ybm _ _) _
   have HR3:Hid (IsR3 v3 rb s1 A1 c1'):=Zh (by rw[hq3];exact HR2.out.drewN q3);have HW3:=Zh (HW2.out.trans (hb3.mono HW2.out.size));have HOK3:=Zh (Zab HOK.out λi hi=>hb3.block i (HOK.out.lt i hi).2);clear hb3 hq3 HLF HR2 HW2 HOK;go_wp2_with fail;refine(Zho v3 rb s1 A1 c1' HR3.out (lf2:Int) (by omega) (by omega)).mono ?_;rintro e v4 ⟨vx,rfl,hox,hR4,hk4⟩;obtain⟨Tx,hTx⟩:=Ze ((Zbd s1 lf2).1);obtain⟨s2',hs2e⟩:=Ze ((Zbd s1 lf2).2);have hTl:Tx.length<=262144:=by
    have h1:=(Zc3 s1 lf2).1;rw[hbs1]at h1;rw[hTx];omega
   rw[<- hTx]at hox;rw[<- hs2e]at hR4;obtain⟨Ax,cx,rfl⟩:=Zac hox;have HDOC:Hid (docG f=((KY,Tx),s2'.e)):=Zh (by
    unfold docG;rw[<- HK'.out,<- HS1e.out,<- HLF3.out,<- hTx,<- hs2e])
   have hW4:Below wr.heap.size wr v4:=HW3.out.trans (hk4.toBelow HW3.out.size (λi hi=>by rw[hi];exact hrb));have hIK:BytesIn v4 Ak KY.length KY:=BytesIn.own (Zab HOK3.out λi hi=>hk4.block i (HOK3.out.lt i hi).2 (λe=>by have:=(HOK3.out.lt i hi).1;omega)) (by unfold maxLen;omega);have hIX:BytesIn v4 Ax Tx.length Tx:=BytesIn.own hox (by unfold maxLen;omega);have hcE:=hR4.blk.cell 2;simp only[lz0,lz1,lz2]at hcE;have HIK:=Zh hIK;have HIX:=Zh hIX;have HNK:Hid (∀ ad,Ak=some ad->0<KY.length->¬ G ad.block):=Zh (λad e _ hG=>by
    have h1:=(HOK3.out.lt ad.block (by rw[e];rfl)).1;have h2:=HV.out.lt _ hG;have h3:=HW1.out.size;omega)
   have HNX:Hid (∀ ad,Ax=some ad->0<Tx.length->¬ G ad.block):=Zh (λad e _ hG=>by
    have h1:=(hox.lt ad.block (by rw[e];rfl)).1;have h2:=HV.out.lt _ hG;have h3:=HW3.out.size;omega)
   have HW4:=Zh hW4;have HB4:=Zh (HB.out.trans (hW4.mono hsz));clear hox hR4 hk4 hTx hs2e hIK hIX hW4 HOK3 HR3 HW3 HK' HS1e HLF3;by_cases he:s2'.e=0;case neg=>
    have d3:(s2'.e != 0)=true:=by simpa using he
    have hN:Zc7 L dn=none:=by
     refine Zje (i:=k+1) ?_ (by omega);simp only[Zc7];rw[HDG.out];simp only;rw[HF.out,HDOC.out,Yag he]
    have HN:=Zh (show X=none by rw[HX3.out,hN]);have HBB4:=Zh (Zaa HB1.out HB4.out hs1);clear he hN;go_wp2;go_ret2;exact Zfq HN.out HBB4.out
   rw[he]at hcE;have HE:=Zh he;clear he;go_wp2_with fail;have HKG:Hid (∀ ad,Ak=some ad->0<KY.length->¬ G ad.block):=HNK;have HXG:Hid (∀ ad,Ax=some ad->0<Tx.length->¬ G ad.block):=HNX;have HV4:=Zh (HV.out.below HW4.out);have hdl:=Zhx HDG.out;have hdm2:D.length<=1000000:=by omega
   clear hdl;have HCV:Hid (∀ u,Kept G v4 u->(convert 24 9 (.slice Ak KY.length ck)).run Tryz.prog u=.ok (.string ⟨KY.toArray⟩) u/\(convert 24 9 (.slice Ax Tx.length cx)).run Tryz.prog u=.ok (.string ⟨Tx.toArray⟩) u):=Zh (λu hu=>⟨Zdx (HIK.out.keep hu HKG.out) ck,Zdx (HIX.out.keep hu HXG.out) cx⟩);refine Yb8 (S:=λu=>(convert 24 9 (.slice Ak KY.length ck)).run Tryz.prog u=.ok (.string ⟨KY.toArray⟩) u/\(convert 24 9 (.slice Ax Tx.length cx)).run Tryz.prog u=.ok (.string ⟨Tx.toArray⟩) u) (by kernel_rfl) ?_ (λhHeld=>?_)
   ·exact HCV.out _ (Kept.refl G v4).drew
   obtain⟨u0,hu0⟩:=Ze v4.drew;rw[<- hu0]at hHeld ⊢;have HM0:Hid (Below v4.heap.size v4 u0):=Zh (by rw[hu0];exact(Ybm _ v4).drew);clear hu0 hcE;refine tk 0 ?_;(try simp only[Act.put,lz3,lz4,lz5]);refine tk 1 ?_;(try simp only[Act.put,lz3,lz4,lz5]);refine tk 5 ?_;(try simp only[Act.put,lz3,lz4,lz5]);refine tk 7 ?_;(try simp only[Act.put,lz3,lz4,lz5]);refine tk 2 ?_;(try simp only[Act.put,lz3,lz4,lz5]);refine tk 6 ?_;(try simp only[Act.put,lz3,lz4,lz5]);refine tk 8 ?_;(try simp only[Act.put,lz3,lz4,lz5]);refine tk 3 ?_;(try simp only[Act.put,lz3,lz4,lz5]);refine tk 9 ?_;(try simp only[Act.put,lz3,lz4,lz5]);refine rd2 4 10 ?sr10 ?sr11;case sr10=>
    intro K hK;have y_1:=(HV4.out.blk.below HM0.out HV4.out.blk.lt).cell 0;simp only[lz0,lz1,lz2]at y_1;go_simp;clear y_1;refine hK.out _ _ (HCV.out _ (Kept.below HM0.out)) (λhr12=>?_);clear hK K;(try simp only[Act.put,lz3,lz4,lz5]);refine rd1 10 ?sr13;case sr13=>
     intro K hK;go_simp;obtain⟨u_2,hu_3⟩:=Ze (u0.alloc (.cells #[.string ⟨KY.toArray⟩,.string ⟨Tx.toArray⟩] 49));have M_4:Hid (Below v4.heap.size v4 u_2):=Zh (by rw[hu_3];exact HM0.out.alloc HM0.out.size _);have B_5:Hid (Blk u_2 u0.heap.size 49 #[.string ⟨KY.toArray⟩,.string ⟨Tx.toArray⟩]):=Zh (by rw[hu_3];exact Blk.new _ _ _);rw[<- hu_3];clear hu_3;refine hK.out _ _ (HCV.out _ (Kept.below M_4.out)) (λhr14=>?_);clear hK K;(try simp only[Act.put,lz3,lz4,lz5]);refine rd1 11 ?sr15;case sr15=>
      intro K hK;refine Zar _ rfl (.tmp 87) (.tmp 93) 23 rfl 0 49 i1 _ 2 32 Tryz.underlying23 hi1 hy0 hy1 hy2 rfl (by decide) (.slice Ad D.length cd) D.length (D.flatMap Zdt) rfl (Zab HV4.out.dr λi hi=>M_4.out.block i (HV4.out.dr.lt i hi).2) ⟨u0.heap.size,0,none⟩ 1 1 (Zdt (KY,Tx)) rfl rfl (Zk7 (p:=(KY,Tx)) B_5.out) (Zpt (KY,Tx)) (by unfold maxLen;omega) (by omega) (Ybd _) ?_;intro v_7 u_6 hw_8 hg_9 hl_10;have B_11:=Zh ((HV4.out.blk.below M_4.out HV4.out.blk.lt).grown hg_9 (λe=>(HV4.out.da g e.symm).2.1 rfl));have E_12:=Zh (HV4.out.doc M_4.out hw_8 hg_9 hl_10);have KY_13:Hid (Kept G v4 u_6):=Zh ((Kept.below M_4.out).grown hg_9 λk e=>.inl (HV4.out.da k e).1);obtain⟨A_14,c_15,rfl⟩:=Zac hw_8;clear hw_8 hg_9 hl_10;refine hK.out _ _ (HCV.out _ KY_13.out) (λhr16=>?_);clear hK K;(try simp only[Act.put,lz3,lz4,lz5]);refine tk 12 ?_;(try simp only[Act.put,lz3,lz4,lz5]);refine tk 13 ?_;(try simp only[Act.put,lz3,lz4,lz5]);refine rd1 14 ?sr19;case sr19=>
       intro K hK;have y_16:=B_11.out.cell 0;have z_17:=B_11.out.frozen 0;simp only[lz0,lz1,lz2]at y_16;go_simp;clear y_16 z_17;refine hK.out _ _ (HCV.out _ E_12.out.2) (λhr20=>?_);clear hK K;(try simp only[Act.put,lz3,lz4,lz5]);refine Yb9 (by kernel_rfl) ?_ _;go_wp2;exact⟨⟨k+1,_,_,D++[(KY,Tx)],by omega,by go_num,by
        simp only[Zc7];rw[HDG.out];simp only;rw[HF.out,HDOC.out,Yaf (by simp[HE.out])],E_12.out.1,λi hi=>by
        rcases hi with hi|hi
        ·exact HGN.out i hi
        ·have:=HB4.out.size;omega,HB4.out.trans (E_12.out.2.toBelow HB4.out.size HGN.out)⟩,by simp[intOf];omega⟩
   case sr11=>
    intro K hK;go_simp;obtain⟨u_18,hu_19⟩:=Ze (u0.alloc (.cells #[.string ⟨KY.toArray⟩,.string ⟨Tx.toArray⟩] 49));have M_20:Hid (Below v4.heap.size v4 u_18):=Zh (by rw[hu_19];exact HM0.out.alloc HM0.out.size _);have B_21:Hid (Blk u_18 u0.heap.size 49 #[.string ⟨KY.toArray⟩,.string ⟨Tx.toArray⟩]):=Zh (by rw[hu_19];exact Blk.new _ _ _);rw[<- hu_19];clear hu_19;refine hK.out _ _ (HCV.out _ (Kept.below M_20.out)) (λhr21=>?_);clear hK K;(try simp only[Act.put,lz3,lz4,lz5]);refine rd1 4 ?sr22;case sr22=>
     intro K hK;have y_22:=(HV4.out.blk.below M_20.out HV4.out.blk.lt).cell 0;simp only[lz0,lz1,lz2]at y_22;go_simp;clear y_22;refine hK.out _ _ (HCV.out _ (Kept.below M_20.out)) (λhr23=>?_);clear hK K;(try simp only[Act.put,lz3,lz4,lz5]);refine rd1 11 ?sr24;case sr24=>
      intro K hK;refine Zar _ rfl (.tmp 87) (.tmp 93) 23 rfl 0 49 i1 _ 2 32 Tryz.underlying23 hi1 hy0 hy1 hy2 rfl (by decide) (.slice Ad D.length cd) D.length (D.flatMap Zdt) rfl (Zab HV4.out.dr λi hi=>M_20.out.block i (HV4.out.dr.lt i hi).2) ⟨u0.heap.size,0,none⟩ 1 1 (Zdt (KY,Tx)) rfl rfl (Zk7 (p:=(KY,Tx)) B_21.out) (Zpt (KY,Tx)) (by unfold maxLen;omega) (by omega) (Ybd _) ?_;intro v_24 u_23 hw_25 hg_26 hl_27;have B_28:=Zh ((HV4.out.blk.below M_20.out HV4.out.blk.lt).grown hg_26 (λe=>(HV4.out.da g e.symm).2.1 rfl));have E_29:=Zh (HV4.out.doc M_20.out hw_25 hg_26 hl_27);have KY_30:Hid (Kept G v4 u_23):=Zh ((Kept.below M_20.out).grown hg_26 λk e=>.inl (HV4.out.da k e).1);obtain⟨A_31,c_32,rfl⟩:=Zac hw_25;clear hw_25 hg_26 hl_27;refine hK.out _ _ (HCV.out _ KY_30.out) (λhr25=>?_);clear hK K;(try simp only[Act.put,lz3,lz4,lz5]);refine tk 12 ?_;(try simp only[Act.put,lz3,lz4,lz5]);refine tk 13 ?_;(try simp only[Act.put,lz3,lz4,lz5]);refine rd1 14 ?sr28;case sr28=>
       intro K hK;have y_33:=B_28.out.cell 0;have z_34:=B_28.out.frozen 0;simp only[lz0,lz1,lz2]at y_33;go_simp;clear y_33 z_34;refine hK.out _ _ (HCV.out _ E_29.out.2) (λhr29=>?_);clear hK K;(try simp only[Act.put,lz3,lz4,lz5]);refine Yb9 (by kernel_rfl) ?_ _;go_wp2;exact⟨⟨k+1,_,_,D++[(KY,Tx)],by omega,by go_num,by
        simp only[Zc7];rw[HDG.out];simp only;rw[HF.out,HDOC.out,Yaf (by simp[HE.out])],E_29.out.1,λi hi=>by
        rcases hi with hi|hi
        ·exact HGN.out i hi
        ·have:=HB4.out.size;omega,HB4.out.trans (E_29.out.2.toBelow HB4.out.size HGN.out)⟩,by simp[intOf];omega⟩
  ·obtain rfl:k=dn:=by omega
   have hlz:¬ ((k:Int)<(k:Int)):=by omega
   have hdl:=Zhx HDG.out;have hdm2:D.length<=1000000:=by omega
   have hsm:=Zla HLS.out HDG.out;have HDI:=Zh (DocsIn.ofRow HV.out.dr rfl (by unfold maxLen;omega) (λp hp=>by have:=hsm p hp;unfold maxLen;omega));have HSM:=Zh hsm;have hcD:=HV.out.blk.cell 0;simp only[lz0,lz1,lz2]at hcD;clear hdl hsm;go_wp2_with fail;refine(Zfv wr Ad D.length cd D HDI.out).mono ?_;rintro e x1 ⟨rfl,q,hq⟩;have hbx:Below wr.heap.size wr x1:=by rw[hq];exact Zaf (Ybm _ _) _
   have HVX:=Zh (HV.out.below hbx);have HBX:=Zh (HB.out.trans (hbx.mono hsz));clear hbx hq hcD HDI;by_cases hr:¬ Zb1 D
   ·rw[Ybt hr]
    have HN:=Zh (show X=none by rw[HX3.out,HDG.out];simp only;rw[Yaf hr]);have HBB4:=Zh (Zaa HB1.out HBX.out hs1);clear hr;go_wp2;go_ret2;exact Zfq HN.out HBB4.out
   have hr:=Classical.not_not.1 hr;rw[Yb0 hr];have HX4:Hid (X=(Zbn L k tn).map λT=>(D,T)):=Zh (by rw[HX3.out,HDG.out];simp only;rw[Yag hr]);have HRD:=Zh hr;clear hr HX3 HV HB;go_wp2;go_loopw [14,15] (λlast i wr=>∃ (m:Nat) (G:Nat->Prop) (vt:Value) (T:List (Int×List Pst)) (R:List (Int×Value)),m<=tn/\i=.int .i64 m/\last=.int .i64 (Zfi T)/\Zbn L k m=some T/\RSegV wr G g (.slice Ad D.length cd) vt D T R/\(∀ i,G i->w1.heap.size<=i)/\Below w1.heap.size w1 wr) (λ_ i _=>tn-(intOf i).toNat);case atStart=>exact⟨0,_,_,[],[],by omega,rfl,rfl,rfl,HVX.out,HGN.out,HBX.out⟩
   case round=>
    clear HVX HBX;obtain⟨m,G2,vt,T,R,hm,rfl,rfl,ht,hv,hg,hb⟩:=hrel;obtain⟨At,ct,hvt⟩:=Zac hv.tr;subst hvt;have HTG:=Zh ht;have HV:=Zh hv;have HGN2:=Zh hg;have HB:=Zh hb;have hsz2:=hb.size;have htl:=Zg7 ht;clear ht hv hg hb;rcases Yab m tn with hlt|hge
    ·have hlt':(m:Int)<(tn:Int):=by omega
     have p0:(0:Int)<=1+(k:Int)+(m:Int):=by omega
     have p1:1+(k:Int)+(m:Int)<(k:Int)+(tn:Int)+1:=by omega
     obtain⟨f,hf⟩:∃ f,L[1+k+m]?=some f:=⟨_,Yax (by have:=HFX.out;omega)⟩
     have hfs:=HLS.out f (Ybz hf);obtain⟨ad,B1,c1,e1,hcell,hcc,hB1⟩:=(HS.out.below HB.out).at_ (1+k+m) f hf;cases e1
     have HF:=Zh (show L.getD (1+k+m) []=f by rw[Yaw,hf];rfl);have HBY:=Zh hB1;have ek:(1+(k:Int)+(m:Int)).toNat=1+k+m:=by omega
     clear hf hB1 htl;go_wp2_with fail;refine(Zkf wr B1 f.length c1 f HBY.out (by omega)).mono ?_;rintro e v1 ⟨rb,A1,c1',rfl,hrb,hR1,hb1,-⟩;unfold at0;have HR1:=Zh hR1;have hrb1:rb<v1.heap.size:=hR1.blk.lt;have HW1:=Zh hb1;clear hR1 hb1 hcell hcc HBY;go_wp2_with fail;refine(Zin v1 rb ⟨f,0,0⟩ A1 c1' HR1.out 511 (by omega) (by omega)).mono ?_;rintro e v2 ⟨rfl,hR2,hk2⟩;obtain⟨tk,htk⟩:=Ze ((rInt ⟨f,0,0⟩ 511).1);obtain⟨s1,hs1e⟩:=Ze ((rInt ⟨f,0,0⟩ 511).2);have htk1:=Zdo ⟨f,0,0⟩ (m:=511) (by omega);rw[<- htk]at htk1 ⊢;rw[<- hs1e]at hR2;have hbs1:s1.bs=f:=by rw[hs1e];exact Zkw _ _
     have hW2:Below wr.heap.size wr v2:=HW1.out.trans (hk2.toBelow HW1.out.size (λi hi=>by rw[hi];exact hrb));have HW2:=Zh hW2;have HR2:=Zh hR2;have hl2:=Zir v2 rb s1 A1 c1' hR2;have HLF:=Zh hl2;obtain⟨lf2,hlf2⟩:=Ze (Zbt s1);rw[<- hlf2]at HLF;have hlm:lf2<=262144:=by have:=Zm2 s1;rw[hbs1]at this;omega
     have HTK:=Zh htk;have HS1e:=Zh hs1e;have HLF3:=Zh hlf2;have hv12:=hk2.size;clear hR2 hk2 htk hs1e hlf2 hl2 HR1 hW2;go_wp2_with fail;refine HLF.out.mono ?_;rintro e v3 ⟨rfl,q3,hq3⟩;have hb3:Below v2.heap.size v2 v3:=by rw[hq3];exact Zaf (Ybm _ _) _
     have HR3:Hid (IsR3 v3 rb s1 A1 c1'):=Zh (by rw[hq3];exact HR2.out.drewN q3);have HW3:=Zh (HW2.out.trans (hb3.mono HW2.out.size));clear hb3 hq3 HLF HR2 HW2;go_wp2_with fail;refine(Zho v3 rb s1 A1 c1' HR3.out (lf2:Int) (by omega) (by omega)).mono ?_;rintro e v4 ⟨vx,rfl,hox,hR4,hk4⟩;obtain⟨Tx,hTx⟩:=Ze ((Zbd s1 lf2).1);obtain⟨s2',hs2e⟩:=Ze ((Zbd s1 lf2).2);have hTl:Tx.length<=262144:=by
      have h1:=(Zc3 s1 lf2).1;rw[hbs1]at h1;rw[hTx];omega
     rw[<- hTx]at hox;rw[<- hs2e]at hR4;obtain⟨Ax,cx,rfl⟩:=Zac hox;have HTR:Hid (Zlh f=(Tx,s2')):=Zh (by
      unfold Zlh;rw[<- HS1e.out,<- HLF3.out,hTx,hs2e])
     have hW4:Below wr.heap.size wr v4:=HW3.out.trans (hk4.toBelow HW3.out.size (λi hi=>by rw[hi];exact hrb));have HIX:=Zh (BytesIn.own hox (by unfold maxLen;omega));have hcx:=Zbi hox;have HW4:=Zh hW4;have HR4:=Zh hR4;have hrb4:rb<v4.heap.size:=hR4.blk.lt;clear hox hR4 hk4 hTx hs2e hW4 HR3 HW3 HS1e HLF3;go_wp2_with fail;refine(Zw2 v4 Ax Tx.length cx Tx HIX.out hcx (by omega)).mono ?_;rintro e v5 ⟨vp,rfl,hpo,hb5⟩;obtain⟨Pp,hPp⟩:=Ze ((getP Tx).1);obtain⟨Pe,hPe⟩:=Ze ((getP Tx).2);rw[<- hPp]at hpo;rw[<- hPe];have hpl:Pp.length<=4096:=by rw[hPp];exact Zm6 _
     obtain⟨Ap,cp,hvp,hcp⟩:∃ A c,vp=.slice A Pp.length c/\Pp.length<=c:=by
      obtain⟨R,h1,h2,h3⟩:=hpo;obtain⟨A,c,e⟩:=Zac h2;subst e;exact⟨A,c,rfl,Zbi h2⟩
     subst hvp;have HPO:=Zh hpo;have hsee:=hpo.see rfl (by unfold maxLen;omega);have hE5:=(HR4.out.blk.below hb5 hrb4).cell 2;simp only[lz0,lz1,lz2]at hE5;have hW5:=HW4.out.trans (hb5.mono HW4.out.size);have HW5:=Zh hW5;have HBB:=Zh (HB.out.trans (hW5.mono hsz2));have hs45:=HW4.out.size;have HTP:Hid (Zfs f=(Pp,Pe)):=Zh (by unfold Zfs;rw[HTR.out];simp only;rw[hPp,hPe]);have HTT:Hid (Zi9 f=tk):=Zh (by unfold Zi9;rw[HTK.out]);have HSEE:=Zh hsee;clear hpo hsee hb5 hW5 hPp hPe HR4 HW4 HTK HIX;have HNN:Hid (Zec f T (k:Int)->X=none):=Zh (λhbad=>by
      have hN:Zbn L k tn=none:=by
       refine Zhd (i:=m+1) ?_ (by omega);simp only[Zbn];rw[HTG.out];simp only;rw[HF.out,Yag hbad]
      rw[HX4.out,hN];rfl)
     have HBB6:=Zh (Zaa HB1.out HBB.out hs1);have HEE5:=Zh hE5;clear hE5;by_cases q1:¬ s2'.e=0
     ·have d1:(s2'.e != 0)=true:=by simpa using q1
      have HN:=Zh (HNN.out (.inl (by rw[HTR.out];exact q1)));have hE5:=HEE5.out;clear q1;go_wp2;go_ret2;exact Zfq HN.out HBB6.out
     have q1:=Classical.not_not.1 q1;have hE5:=HEE5.out;rw[q1]at hE5;have Q1:=Zh q1;clear q1 HEE5;by_cases q2:¬ Pe=0
     ·have d1:(Pe != 0)=true:=by simpa using q2
      have HN:=Zh (HNN.out (.inr (.inl (by rw[HTP.out];exact q2))));clear q2;go_wp2;go_ret2;exact Zfq HN.out HBB6.out
     obtain rfl:Pe=0:=Classical.not_not.1 q2;clear q2;by_cases q3:tk<=Zfi T
     ·have HN:=Zh (HNN.out (.inr (.inr (.inl (by rw[HTT.out];exact q3)))))
      have d1:decide (tk<=Zfi T)=true:=Yb0 q3;clear q3;go_wp2;go_ret2;exact Zfq HN.out HBB6.out
     have d3:decide (tk<=Zfi T)=false:=Ybt q3;have Q3:=Zh q3;by_cases q4:Pp.length=0
     ·have HN:=Zh (HNN.out (.inr (.inr (.inr (.inl (by rw[HTP.out];exact q4))))))
      have d1:(((Pp.length:Nat):Int)==0)=true:=by simp[q4]
      have d2:((Pp.length:Nat):Int)=0:=by omega
      clear q3 q4;go_wp2;go_ret2;exact Zfq HN.out HBB6.out
     obtain⟨N1,hN1⟩:∃ N1,Pp.length=N1+1:=⟨Pp.length-1,by omega⟩
     obtain⟨ap,x,B2,c2,e1,hxx,-,hxc,-,-,-⟩:=HSEE.out.at N1 (by omega);subst e1;obtain⟨xd,hxd⟩:=Ze x.1;have hlp:Zjv Pp=xd:=by unfold Zjv;rw[hN1,Ybk,Yaw,hxx,hxd];rfl
     rw[<- hxd]at hxc;have hwn:IntKind.i64.wrap (((Pp.length:Nat):Int)-1)=(N1:Int):=by rw[show((Pp.length:Nat):Int)-1=(N1:Int) by omega];exact Ybo _ (by omega)
     have r0:(0:Int)<=(N1:Int):=by omega
     have r1:(N1:Int)<((Pp.length:Nat):Int):=by omega
     have r2:¬ ((Pp.length:Nat):Int)=0:=by omega
     have r3:(((Pp.length:Nat):Int)==0)=false:=by simpa using λe=>q4 (by rw[e];rfl)
     have r4:¬ Pp=[]:=λe=>q4 (by rw[e];rfl);have HLP:=Zh hlp;have Q4:=Zh q4;have HN1:=Zh hN1;clear hxx hxd hlp q4 hN1 q3;by_cases q5:(k:Int)<=xd
     ·have HN:=Zh (HNN.out (.inr (.inr (.inr (.inr (by rw[HTP.out];show(k:Int)<=Zjv Pp;rw[HLP.out];exact q5))))))
      have d5:decide ((k:Int)<=xd)=true:=Yb0 q5;clear q5;go_wp2;go_ret2;exact Zfq HN.out HBB6.out
     have d5:decide ((k:Int)<=xd)=false:=Ybt q5;have Q5:=Zh q5;have hok:¬ Zec f T (k:Int):=by
      unfold Zec;rw[HTR.out,HTP.out,HTT.out];show ¬ (s2'.e≠0\/(0:Int)≠0\/tk<=Zfi T\/Pp.length=0\/(k:Int)<=Zjv Pp);rw[HLP.out];intro h;rcases h with h|h|h|h|h
      ·exact h Q1.out
      ·exact h rfl
      ·exact Q3.out h
      ·exact Q4.out h
      ·exact Q5.out h
     have HOK:=Zh hok;have htl2:T.length<=1000000:=by have:=Zg7 HTG.out;have:=HFX.out;omega
     have hcV:=(HV.out.blk.below HW5.out HV.out.blk.lt).cell 1;simp only[lz0,lz1,lz2]at hcV;have hbu:=HW5.out.alloc HW5.out.size (.cells #[.int .i64 tk,.slice (some ap) Pp.length cp] 124);have HBU:=Zh hbu;have HLIT:Hid (Blk (v5.alloc (.cells #[.int .i64 tk,.slice (some ap) Pp.length cp] 124)) v5.heap.size 124 #[.int .i64 tk,.slice (some ap) Pp.length cp]):=Zh (Blk.new _ _ _);have HROW:=Zh (Zab HV.out.tr λi hi=>hbu.block i (HV.out.tr.lt i hi).2);have HPU:=Zh (HPO.out.below ((Ybm _ v5).alloc (Yar _) (.cells #[.int .i64 tk,.slice (some ap) Pp.length cp] 124)));have hfk:Zaj tk:=⟨by omega,by omega⟩
     have HFK:=Zh hfk;clear q5 hok hbu hfk HNN HN1;go_wp2_with (at_builtin;refine wpList_append_own_at _ rfl (.tmp 161) (.tmp 165) 118 rfl 0 124 i2 _ 2 32 Tryz.underlying118 hi2 hx0 hx1 hx2 rfl (by decide) (.slice At T.length ct) T.length (R.flatMap Zan) rfl HROW.out ⟨v5.heap.size,0,none⟩ 1 1 (Zan (tk,.slice (some ap) Pp.length cp)) rfl rfl (Zda (p:=(tk,.slice (some ap) Pp.length cp)) HLIT.out) (Zfl tk (some ap) Pp.length cp) (by unfold maxLen;omega) (by omega) (Ybd _) ?_;intro v6 w7 hown hgrow _ hloc;have HB7:=Zh ((HV.out.blk.below HBU.out HV.out.blk.lt).grown hgrow (λe=>(HV.out.ta g e.symm).2 rfl));have HE7:=Zh (HV.out.term (x:=(tk,Pp)) HBU.out HFK.out ⟨_,cp,rfl,hcp⟩ HPU.out hs45 hown hgrow hloc);have y7:=HB7.out.cell 1;have z7:=HB7.out.frozen 1;simp only[lz0,lz1,lz2]at y7;obtain⟨A6,c6,hv6⟩:=Zac hown;subst hv6;clear hown hgrow hloc hcV);exact⟨⟨m+1,_,_,T++[(tk,Pp)],_,by omega,by go_num,by rw[Ziw],by
      simp only[Zbn];rw[HTG.out];simp only;rw[HF.out,Yaf HOK.out,HTT.out,HTP.out],HE7.out.1,λi hi=>by
      rcases hi with hi|hi
      ·exact HGN2.out i hi
      ·have:=HB.out.size;omega,HB.out.trans (HE7.out.2.toBelow hsz2 HGN2.out)⟩,by simp[intOf];omega⟩
    ·obtain rfl:m=tn:=by omega
     have hlz2:¬ ((m:Int)<(m:Int)):=by omega
     have htm2:T.length<=1000000:=by omega
     have HDD:=Zh (show X=some (D,T) by rw[HX4.out,HTG.out];rfl);have HBB5:=Zh (Zaa HB1.out HB.out hs1);have hgs:=Ybu hs1 HGG.out;clear htl;go_wp2;go_ret2;refine⟨HBB5.out,?_⟩;rw[HDD.out];exact⟨g,rfl,hgs,HV.out.see (by unfold maxLen;omega) (by unfold maxLen;omega) (λp hp=>by have:=HSM.out p hp;unfold maxLen;omega) (λx hx=>by have:=Zjm HTG.out x hx;unfold maxLen;omega)⟩
end
section
def Zcm (l:List (Nm×Nm)):Nat->List Nm
 | 0=>[]
 | k+1=>if (l.getD k ([],[])).1∈Zcm l k then Zcm l k else Zcm l k++[(l.getD k ([],[])).1]
theorem Zer (l:List (Nm×Nm)) (k:Nat):Zcm l (k+1)=if (l.getD k ([],[])).1∈Zcm l k then Zcm l k else Zcm l k++[(l.getD k ([],[])).1]:=rfl
theorem Zj4 (l:List (Nm×Nm)):∀ k,(Zcm l k).length<=k
 | 0=>Yar _
 | k+1=>by
  have:=Zj4 l k
  rw[Zer];split
  ·omega
  ·rw[Yaq,Yae];omega
theorem Zkm (l:List (Nm×Nm)):∀ k,k<=l.length->∀ x,x∈Zcm l k↔x∈(l.map Prod.fst).take k
 | 0,_,x=>by simp[Zcm]
 | k+1,hk,x=>by
  have ih:=Zkm l k (by omega) x;have e:(l.map Prod.fst).take (k+1)=(l.map Prod.fst).take k++[(l.getD k ([],[])).1]:=by
   rw[Ya5,Ych,Yaw,Yax (by omega)];rfl
  rw[e,Ybj,Ybi,<- ih];rw[Zer];split
  ·rename_i h
   constructor
   ·exact .inl
   ·rintro(h2|h2)
    ·exact h2
    ·rw[h2];exact h
  ·rw[Ybj,Ybi]
theorem Zlq (l:List (Nm×Nm)):∀ k,k<=l.length->((Zcm l k).length=k↔((l.map Prod.fst).take k).Nodup)
 | 0,_=>by simp[Zcm]
 | k+1,hk=>by
  have ih:=Zlq l k (by omega);have hm:=Zkm l k (by omega) (l.getD k ([],[])).1;have hl:=Zj4 l k;have e:(l.map Prod.fst).take (k+1)=(l.map Prod.fst).take k++[(l.getD k ([],[])).1]:=by
   rw[Ya5,Ych,Yaw,Yax (by omega)];rfl
  rw[e,List.nodup_append];rw[Zer];split
  ·rename_i h
   constructor
   ·intro h2;omega
   ·rintro⟨-,-,h2⟩
    exact absurd rfl (h2 _ (hm.1 h) _ (Ybi.2 rfl))
  ·rename_i h
   rw[Yaq,Yae];constructor
   ·intro h2
    refine⟨ih.1 (by omega),by simp,λa ha b hb e2=>?_⟩;rw[Ybi]at hb;subst hb;exact h (hm.2 (e2 ▸ ha))
   ·rintro⟨h2,-,-⟩
    have:=ih.2 h2
    omega
theorem Zvk {l:List (Nm×Nm)} (h1:l.length<=64) (h2:∀ p∈l,Zf8 p):Zb1 l↔(Zcm l l.length).length=l.length:=by
 rw[Zlq l l.length (Yar _),Yav (by simp)];exact⟨λh=>h.2.2,λh=>⟨h1,h2,h⟩⟩
theorem Ztp {s:Rd} {m:Int} (h:(rInt s m).2.e=0):s.e=0:=by
 unfold rInt at h;split at h
 ·exact h
 ·rename_i h2;omega
theorem Zzv {s:Rd} {m m':Int} (h:(rInt s m).2.e=0) (hm:m<=m'):rInt s m'=rInt s m:=by
 have he:=Ztp h;have hn:¬ s.e≠0:=by omega
 unfold rInt at h ⊢;rw[Yaf hn]at h ⊢;rw[Yaf hn];split at h
 ·rename_i h2;exact absurd h h2
 ·rename_i h2
  rw[Yaf h2,Yaf h2];split at h
  ·simp at h
  ·rename_i h3
   rw[Yaf h3,Yaf (by omega)]
theorem Zpb {s:Rd} {m m':Int} (h:(rInt s m').2.e=0) (h0:0<=m) (hm:(rInt s m').1<=m):rInt s m=rInt s m':=by
 have he:=Ztp h;have hn:¬ s.e≠0:=by omega
 unfold rInt at h hm ⊢;rw[Yaf hn]at h hm ⊢;rw[Yaf hn];split at h
 ·rename_i h2;exact absurd h h2
 ·rename_i h2
  rw[Yaf h2]at hm ⊢;rw[Yaf h2];split at h
  ·simp at h
  ·rename_i h3
   rw[Yaf h3]at hm ⊢;rw[Yaf];simp only at hm;omega
def Zi2 (f:Nm) (N:Int):Int×Bool:=
 ((rInt ⟨f,0,0⟩ N).1,decide ((rInt ⟨f,0,0⟩ N).1+(rInt (rInt ⟨f,0,0⟩ N).2 N).1=N/\(rInt (rInt ⟨f,0,0⟩ N).2 N).2.e=0/\Zbt (rInt (rInt ⟨f,0,0⟩ N).2 N).2=0))
theorem Zz6 (f:Nm) {N:Int} (h0:0<=N) (hN:N<=1073741824):
  ((Zi2 f N).2=true↔¬ ((Zc2 f).2.2.e≠0\/0<Zbt (Zc2 f).2.2\/N≠(Zc2 f).1+(Zc2 f).2.1))/\((Zi2 f N).2=true->(Zi2 f N).1=(Zc2 f).1):=by
 have key:(Zi2 f N).2=true->rInt ⟨f,0,0⟩ 1073741824=rInt ⟨f,0,0⟩ N/\rInt (rInt ⟨f,0,0⟩ N).2 1073741824=rInt (rInt ⟨f,0,0⟩ N).2 N:=by
  intro h;unfold Zi2 at h;obtain⟨-,h2,-⟩:=of_decide_eq_true h;exact⟨Zzv (Ztp h2) hN,Zzv h2 hN⟩
 refine⟨⟨λh=>?_,λh=>?_⟩,λh=>?_⟩
 ·obtain⟨k1,k2⟩:=key h
  unfold Zi2 at h;obtain⟨h1,h2,h3⟩:=of_decide_eq_true h;unfold Zc2;rw[k1,k2];simp only;omega
 ·unfold Zc2 at h
  simp only[not_or]at h;obtain⟨h1,h2,h3⟩:=h;have h1:(rInt (rInt ⟨f,0,0⟩ 1073741824).2 1073741824).2.e=0:=by omega
  have h3:N=(rInt ⟨f,0,0⟩ 1073741824).1+(rInt (rInt ⟨f,0,0⟩ 1073741824).2 1073741824).1:=by omega
  have b1:=Zdo ⟨f,0,0⟩ (m:=1073741824) (by omega);have b2:=Zdo (rInt ⟨f,0,0⟩ 1073741824).2 (m:=1073741824) (by omega);have k1:=Zpb (m:=N) (Ztp h1) h0 (by omega);have k2:=Zpb (m:=N) h1 h0 (by omega);unfold Zi2;rw[k1,k2];exact Yb0 ⟨h3.symm,h1,by omega⟩
 ·obtain⟨k1,k2⟩:=key h
  unfold Zi2 Zc2;rw[k1]
theorem Zmu {s:Rd} (hs:s.Ok) (h:(Zbd s (Zbt s)).2.e=0):Zbt (Zbd s (Zbt s)).2=0:=by
 have hp:=hs.place;unfold Zbd at h ⊢;split at h
 ·rename_i h2
  rw[Yag h2];unfold Zbt;split
  ·rfl
  ·rename_i h3
   rcases h2 with h2|h2
   ·exact absurd h2 h3
   ·unfold Zbt at h2
    have h4:¬ s.e≠0:=h3;rw[Yaf h4]at h2;show s.bs.length-s.p=0;omega
 ·rename_i h2
  rw[Yaf h2];split at h
  ·simp at h
  ·rename_i h3
   rw[Yaf h3];unfold Zbt;split
   ·rfl
   ·simp only
    omega
theorem termBad_is {f:Nm} {T:List (Int×List Pst)} {docs:Int}:¬ Zec f T docs↔(Zfi T+1<=Zi9 f/\((Zfs f).2=0/\0<(Zfs f).1.length/\Zjv (Zfs f).1<docs)/\(Zlh f).2.e=0):=by
 unfold Zec;omega
end
section
open Go.RowKit Go.Maps Go.WideMaps
theorem Qab:(Tryz.prog.info? 49).map (λi=>(i.zero,i.size,i.bytes))=some (some (.agg #[.string ⟨#[]⟩,.string ⟨#[]⟩]),2,32):=by kernel_rfl
theorem Zrq {w:World} {g:Nat} {k t:Nm} (h:Blk w g 49 #[.string ⟨k.toArray⟩,.string ⟨t.toArray⟩]):∀ (j:Nat) (u:Value),(Zdt (k,t))[j]?=some u->w.cell? ((⟨g,0,none⟩:Addr).add j)=some u:=λj u hu=>by
 rw[zero_add]
 match j with
 | 0=>simp[Zdt]at hu;subst hu;exact h.cell 0
 | 1=>simp[Zdt]at hu;subst hu;exact h.cell 1
 | j+2=>simp[Zdt]at hu
theorem Zzp (p:Nm×Nm):∀ u∈Zdt p,u.oneCell'=true:=λu hu=>by
 simp[Zdt]at hu;rcases hu with rfl|rfl<;>rfl
end
end Go.Proofs.YthcjikpabpgpfaaGreat
