import Derived.Test.YthcjikpabpgpfaaGreatZp0
import Derived.Test.YthcjikpabpgpfaaGreatZp5
import Derived.Test.YthcjikpabpgpfaaGreatZp12
import Derived.Test.YthcjikpabpgpfaaGreatZp7
import Derived.Test.YthcjikpabpgpfaaGreatZp10
import Derived.Test.YthcjikpabpgpfaaGreatZp6
import Derived.Test.YthcjikpabpgpfaaGreatZp2
import Derived.Laws.BitsAllLaws
import Derived.Deep.QuietTactic
import Derived.BigQuiet
import Derived.Deep.RegionHeld3
import Derived.Lib.SmallJoins
import Derived.Test.YthcjikpabpgpfaaGreatZp8
import Derived.Lib.MinMax
import Derived.Test.YthcjikpabpgpfaaGreatZp9
import Derived.Deep.DeepCutAuto
set_option linter.unusedSimpArgs false
set_option maxHeartbeats 16000000
set_option maxRecDepth 100000
namespace Go.Proofs.YthcjikpabpgpfaaGreat
open Go.RowKit Go.Maps Go.WideMaps
theorem ValidP.ahead {l:List Pst} (h:ValidP l) {f:Nat}:∀ {k:Nat},f+k < l.length→lastD l f < (pAt l (f+k)).1
 | 0,hk=>h.up f hk
 | k+1,hk=>by
  have h1:=h.ahead (f:=f) (k:=k) (by omega)
  have h2:=h.up (f+(k+1)) hk
  unfold lastD at h2
  rw [if_neg (by omega),show f+(k+1) - 1=f+k by omega] at h2
  omega
theorem ValidP.last_lt {l:List Pst} (h:ValidP l) {f t:Nat} (hf:f < t) (ht:t≤l.length):lastD l f < (pAt l (t - 1)).1:=by
 have:=h.ahead (f:=f) (k:=t - 1 - f) (by omega)
 rwa [show f+(t - 1 - f)=t - 1 by omega] at this
theorem fit_of {w:World} {A:Option Addr} {n:Nat} {l:List Pst} (h:PostsSee w A n l):FitP l:=by
 intro x hx s hs
 obtain ⟨i,hi⟩:=List.getElem?_of_mem hx
 cases A with
 | none=>
  have h0:=h.nil rfl
  have h1:=h.len
  have:l=[]:=List.eq_nil_of_length_eq_zero (by omega)
  subst this
  cases hx
 | some ad=>
  obtain ⟨_,_,B,c,_,_,h4⟩:=h.at_ ad rfl i x hi
  have:=h4.vals s hs
  unfold fits64 at this
  omega
def putE (l:List Pst):List UInt8:=if checkP l=0 then putP l else []
def PutPOut (w:World) (l:List Pst) (e:Ending) (w':World):Prop:=
 ∃ v,e=.returned (.tuple #[v,.int .i64 (checkP l)])∧w'.ownsRow w.heap.size 5 1 v (putE l).length ((putE l).map byteV)∧Below w.heap.size w w'
theorem block_next {l:List Pst} {i k t:Nat} (hik:i≤k) (hk4:k % 4=0) (hkt:k < t) (ht:t=min l.length (k+4)):
  cat (linB l) i (k - i)++(headB l k t (cat (unitB l) k (t - k))++cat (unitB l) k (t - k))=cat (linB l) i (t - i):=by
 have h1:=cat_block l (i:=k) (k:=t - k) hk4 (by omega) (by omega)
 have h2:=cat_add (linB l) i (k - i) (t - k)
 rw [show k - i+(t - k)=t - i by omega,show i+(k - i)=k by omega,h1] at h2
 rw [h2]
 unfold blockB
 rw [← ht]
theorem group_next {l:List Pst} {i t:Nat} (hi:i % 16=0) (hit:i < t) (ht:t=min l.length (i+16)):
  cat (lin l) 0 i++(headB l i t (cat (linB l) i (t - i))++cat (linB l) i (t - i))=cat (lin l) 0 t:=by
 have h1:=cat_group l (i:=i) (k:=t - i) hi (by omega) (by omega)
 have h2:=cat_add (lin l) 0 i (t - i)
 rw [show i+(t - i)=t by omega,Nat.zero_add,h1] at h2
 rw [h2]
 unfold groupB
 rw [← ht]
def GetPOut (w:World) (g:List Pst×Int) (e:Ending) (w':World):Prop:=∃ v,e=.returned (.tuple #[v,.int .i64 g.2])∧PostsO w' w.heap.size v g.1∧Below w.heap.size w w'
theorem spotInfo:(Tryz.prog.info? 64).map (fun i=>(i.zero,i.size,i.bytes))=some (some (.agg #[.int .i64 0,.int .i64 0]),2,16):=by kernel_rfl
theorem postInfo:(Tryz.prog.info? 62).map (fun i=>(i.zero,i.size,i.bytes))=some (some (.agg #[.int .i64 0,.slice none 0 0]),2,32):=by kernel_rfl
theorem getP_few (b:List UInt8):(getP b).1.length≤4096:=by
 rcases getP_err b with h | h
 ·have h1:=(getP_some h).1
  have h2:¬ 4096 < (getP b).1.length:=fun h3=>by rw [check_many h3] at h1;omega
  omega
 ·rw [h]
  simp
end Go.Proofs.YthcjikpabpgpfaaGreat
namespace Go.Proofs.YthcjikpabpgpfaaGreat
structure PR where
 left:List UInt8
 last:Int
 bad:Bool
def PR.fail (s:PR):PR:=⟨[],s.last,true⟩
def rNum (s:PR) (most:Nat):Nat×PR:=if (getL s.left).2.2≠0∨most < (getL s.left).1 then (0,s.fail) else ((getL s.left).1,⟨s.left.drop (getL s.left).2.1,s.last,s.bad⟩)
def rRise (s:PR):List Int×PR:=if (getR s.left 4096).2.2≠0 then ([],s.fail) else ((getR s.left 4096).1,⟨s.left.drop (getR s.left 4096).2.1,s.last,s.bad⟩)
def rDoc (s:PR):Int×PR:=(s.last+1+(rNum s 4294967296).1,if 4294967296 < s.last+1+(rNum s 4294967296).1 then (rNum s 4294967296).2.fail else (rNum s 4294967296).2)
def rSpots (d:Int) (p a:List Int×PR):List Pst×PR:=if p.1.length=0∨p.1.length≠a.1.length then ([],a.2.fail) else ([(d,p.1.zip a.1)],⟨a.2.left,d,a.2.bad⟩)
def rPost (s:PR):List Pst×PR:=rSpots (rDoc s).1 (rRise (rDoc s).2) (rRise (rRise (rDoc s).2).2)
def rEnd (d:Int) (z:Nat×PR) (q:List Pst×PR):List Pst×PR:=(q.1,if q.2.last≠d∨(q.2.left.length:Int)≠(z.2.left.length:Int) - z.1 then q.2.fail else q.2)
def rPart (inside:PR→List Pst×PR) (s:PR):List Pst×PR:=rEnd (rDoc s).1 (rNum (rDoc s).2 (rDoc s).2.left.length) (inside (rNum (rDoc s).2 (rDoc s).2.left.length).2)
def runP (f:Nat→PR→List Pst×PR) (a st:Nat):Nat→PR→List Pst×PR
 | 0,s=>([],s)
 | k+1,s=>((runP f a st k s).1++(f (a+k * st) (runP f a st k s).2).1,(f (a+k * st) (runP f a st k s).2).2)
def run0 (a t:Nat) (s:PR):List Pst×PR:=runP (fun _=>rPost) a 1 (t - a) s
def run1 (a t:Nat) (s:PR):List Pst×PR:=runP (fun i=>rPart (run0 i (min (i+4) t))) a 4 ((t - a+3) / 4) s
def run2 (a t:Nat) (s:PR):List Pst×PR:=runP (fun i=>rPart (run1 i (min (i+16) t))) a 16 ((t - a+15) / 16) s
def rStart (b:List UInt8):PR:=⟨b,-1,false⟩
def rAll (b:List UInt8):List Pst×PR:=run2 0 (rNum (rStart b) 4096).1 (rNum (rStart b) 4096).2
def getM (b:List UInt8):List Pst×Int:=if (rAll b).2.bad=true∨0 < (rAll b).2.left.length then ([],3) else ((rAll b).1,0)
def sl (l:List Pst) (x y:Nat):List Pst:=(l.drop x).take (y - x)
theorem sl_none (l:List Pst) (x:Nat):sl l x x=[]:=by simp [sl]
theorem sl_cat (l:List Pst) {x y z:Nat} (h1:x≤y) (h2:y≤z):sl l x y++sl l y z=sl l x z:=by
 unfold sl
 have e:l.drop y=(l.drop x).drop (y - x):=by rw [List.drop_drop];congr 1;omega
 rw [e,show z - x=(y - x)+(z - y) by omega,List.take_add]
theorem sl_one {l:List Pst} {x:Nat} (h:x < l.length):sl l x (x+1)=[pAt l x]:=by
 unfold sl
 rw [show x+1 - x=1 by omega,List.drop_eq_getElem_cons h,List.take_succ_cons,List.take_zero]
 unfold pAt
 rw [List.getD_eq_getElem?_getD,List.getElem?_eq_getElem h]
 rfl
theorem sl_all (l:List Pst):sl l 0 l.length=l:=by simp [sl]
theorem lastD_succ (l:List Pst) (i:Nat):lastD l (i+1)=(pAt l i).1:=by unfold lastD;rw [if_neg (by omega),Nat.add_sub_cancel]
def V1 (p:Int) (x:Pst):Prop:=p < x.1∧x.1≤4294967296∧0 < x.2.length∧x.2.length≤4096∧rises (-1) (poss x.2)=true∧rises (-1) (atss x.2)=true∧∀ s∈x.2,s.1≤9223372036854775807∧s.2≤9223372036854775807
def agrees (l:List Pst) (i:Nat) (m:List Pst):Prop:=∀ j,j < m.length→pAt l (i+j)=pAt m j
theorem agrees_left {l a b:List Pst} {i:Nat} (h:agrees l i (a++b)):agrees l i a:=fun j hj=>by
 have:=h j (by rw [List.length_append];omega)
 rwa [pAt_left hj] at this
theorem agrees_right {l a b:List Pst} {i:Nat} (h:agrees l i (a++b)):agrees l (i+a.length) b:=fun j hj=>by
 have:=h (a.length+j) (by rw [List.length_append];omega)
 rw [pAt_right (by omega),show a.length+j - a.length=j by omega] at this
 rwa [Nat.add_assoc]
theorem runP_comp (f:Nat→PR→List Pst×PR) (l:List Pst) (F:Nat→List UInt8) (a st t:Nat) (hst:0 < st) (hat:a≤t)
  (hstep:∀ i,a≤i→i < t→(i - a) % st=0→∀ s r,s.bad=false→s.last=lastD l i→s.left=cat F i (min (i+st) t - i)++r→f i s=(sl l i (min (i+st) t),⟨r,lastD l (min (i+st) t),false⟩)):
  ∀ k,a+k * st < t+st→∀ s r,s.bad=false→s.last=lastD l a→s.left=cat F a (min (a+k * st) t - a)++r→runP f a st k s=(sl l a (min (a+k * st) t),⟨r,lastD l (min (a+k * st) t),false⟩)
 | 0,hk,s,r,h1,h2,h3=>by
  obtain ⟨left,last,bad⟩:=s
  simp only [Nat.zero_mul,Nat.add_zero,Nat.min_eq_left hat,Nat.sub_self,cat,List.nil_append] at h1 h2 h3 ⊢
  rw [runP,sl_none,h1,h2,h3]
 | k+1,hk,s,r,h1,h2,h3=>by
  have e:(k+1) * st=k * st+st:=Nat.succ_mul k st
  obtain ⟨i,hi⟩:∃ i,i=a+k * st:=⟨_,rfl⟩
  have hia:(i - a) % st=0:=by rw [hi,Nat.add_sub_cancel_left];exact Nat.mul_mod_left k st
  have e2:a+(k+1) * st=i+st:=by omega
  have hit:i < t:=by omega
  have hm:min (a+k * st) t=i:=by omega
  obtain ⟨E,hE⟩:∃ E,E=min (i+st) t:=⟨_,rfl⟩
  rw [e2,← hE] at h3 ⊢
  have hiE:i≤E∧a≤i:=by omega
  have h4:cat F a (E - a)=cat F a (i - a)++cat F i (E - i):=by
   have:=cat_add F a (i - a) (E - i)
   rwa [show i - a+(E - i)=E - a by omega,show a+(i - a)=i by omega] at this
  rw [h4,List.append_assoc] at h3
  have ih:=runP_comp f l F a st t hst hat hstep k (by omega) s (cat F i (E - i)++r) h1 h2 (by rw [hm];exact h3)
  rw [hm] at ih
  rw [runP,ih,← hi]
  simp only
  rw [hstep i hiE.2 hit hia ⟨cat F i (E - i)++r,lastD l i,false⟩ r rfl rfl (by rw [← hE]),← hE]
  simp only
  rw [sl_cat l hiE.2 hiE.1]
theorem runP_sound (f:Nat→PR→List Pst×PR) (F:List Pst→Nat→List UInt8) (a st t:Nat) (hst:0 < st) (hat:a≤t) (Q:List Pst→Prop)
  (hstep:∀ i,a≤i→i < t→(i - a) % st=0→∀ s,(f i s).2.bad=false→s.bad=false∧(f i s).1.length=min (i+st) t - i∧∀ l,Q l→t≤l.length→agrees l i (f i s).1→lastD l i=s.last→
   s.left=cat (F l) i (min (i+st) t - i)++(f i s).2.left∧(f i s).2.last=lastD l (min (i+st) t)∧∀ j,i≤j→j < min (i+st) t→V1 (lastD l j) (pAt l j)):
  ∀ k,a+k * st < t+st→∀ s,(runP f a st k s).2.bad=false→s.bad=false∧(runP f a st k s).1.length=min (a+k * st) t - a∧∀ l,Q l→t≤l.length→agrees l a (runP f a st k s).1→lastD l a=s.last→
   s.left=cat (F l) a (min (a+k * st) t - a)++(runP f a st k s).2.left∧(runP f a st k s).2.last=lastD l (min (a+k * st) t)∧∀ j,a≤j→j < min (a+k * st) t→V1 (lastD l j) (pAt l j)
 | 0,hk,s,h=>by
  simp only [runP,Nat.zero_mul,Nat.add_zero,Nat.min_eq_left hat,Nat.sub_self,cat,List.nil_append,List.length_nil] at h ⊢
  exact ⟨h,trivial,fun l _ _ _ e=>⟨trivial,e.symm,fun j h1 h2=>by omega⟩⟩
 | k+1,hk,s,h=>by
  have e:(k+1) * st=k * st+st:=Nat.succ_mul k st
  obtain ⟨i,hi⟩:∃ i,i=a+k * st:=⟨_,rfl⟩
  have hia:(i - a) % st=0:=by rw [hi,Nat.add_sub_cancel_left];exact Nat.mul_mod_left k st
  have e2:a+(k+1) * st=i+st:=by omega
  have hit:i < t:=by omega
  have hm:min (a+k * st) t=i:=by omega
  obtain ⟨E,hE⟩:∃ E,E=min (i+st) t:=⟨_,rfl⟩
  rw [e2,← hE]
  have hiE:i≤E∧a≤i:=by omega
  rw [runP,← hi] at h ⊢
  simp only at h ⊢
  obtain ⟨q1,q2,q3⟩:=hstep i hiE.2 hit hia _ h
  obtain ⟨p1,p2,p3⟩:=runP_sound f F a st t hst hat Q hstep k (by omega) s q1
  rw [hm] at p2 p3
  rw [← hE] at q2 q3
  refine ⟨p1,by rw [List.length_append,p2,q2];omega,fun l hQ htl hag hla=>?_⟩
  obtain ⟨p4,p5,p6⟩:=p3 l hQ htl (agrees_left hag) hla
  have hag2:=agrees_right hag
  rw [p2,show a+(i - a)=i by omega] at hag2
  obtain ⟨q4,q5,q6⟩:=q3 l hQ htl hag2 p5.symm
  have h4:cat (F l) a (E - a)=cat (F l) a (i - a)++cat (F l) i (E - i):=by
   have:=cat_add (F l) a (i - a) (E - i)
   rwa [show i - a+(E - i)=E - a by omega,show a+(i - a)=i by omega] at this
  refine ⟨by rw [h4,p4,q4,List.append_assoc],q5,fun j h1 h2=>?_⟩
  rcases Nat.lt_or_ge j i with h3 | h3
  ·exact p6 j h1 h3
  ·exact q6 j h3 h2
theorem getL_split {b:List UInt8} (h:(getL b).2.2=0):b=putL (getL b).1++b.drop (getL b).2.1:=by
 obtain ⟨h1,h2,h3,h4,h5⟩:=getL_inv (l:=b) (v:=(getL b).1) (k:=(getL b).2.1) (by rw [← h])
 rw [← h4,List.take_append_drop]
theorem rNum_good {s:PR} {most:Nat} (h:(rNum s most).2.bad=false):s.bad=false∧s.left=putL (rNum s most).1++(rNum s most).2.left∧(rNum s most).1≤most∧(rNum s most).2.last=s.last:=by
 unfold rNum at h ⊢
 split at h
 ·cases h
 ·rename_i h1
  have h1':(getL s.left).2.2=0:=by
   rcases Decidable.em ((getL s.left).2.2=0) with h2 | h2
   ·exact h2
   ·exact absurd (.inl h2) h1
  rw [if_neg h1]
  exact ⟨h,getL_split h1',by
   rcases Nat.lt_or_ge most (getL s.left).1 with h2 | h2
   ·exact absurd (.inr h2) h1
   ·exact h2,rfl⟩
theorem rNum_put {s:PR} {most n:Nat} {r:List UInt8} (hn:n≤most) (h64:n < 2 ^ 64) (hs:s.left=putL n++r):rNum s most=(n,⟨r,s.last,s.bad⟩):=by
 unfold rNum
 rw [hs,getL_put h64,if_neg (by simp;omega)]
 simp only
 rw [getL_drop]
theorem rRise_good {s:PR} (h:(rRise s).2.bad=false):s.bad=false∧s.left=putR (rRise s).1++(rRise s).2.left∧(rRise s).1.length≤4096∧rises (-1) (rRise s).1=true∧(∀ x∈(rRise s).1,x≤9223372036854775807)∧(rRise s).2.last=s.last:=by
 unfold rRise at h ⊢
 split at h
 ·cases h
 ·rename_i h1
  have h1':(getR s.left 4096).2.2=0:=by
   rcases Decidable.em ((getR s.left 4096).2.2=0) with h2 | h2
   ·exact h2
   ·exact absurd h2 h1
  rw [if_neg h1]
  obtain ⟨g1,g2,g3,g4,g5⟩:=getR_inv (b:=s.left) (most:=4096) (l:=(getR s.left 4096).1) (k:=(getR s.left 4096).2.1) (by rw [← h1'])
  exact ⟨h,by simp only;rw [← g4,List.take_append_drop],by simp only;omega,g1,g2,rfl⟩
theorem rRise_put {s:PR} {l:List Int} {r:List UInt8} (hl:l.length≤4096) (hr:rises (-1) l=true) (hx:∀ x∈l,x≤9223372036854775807) (hs:s.left=putR l++r):rRise s=(l,⟨r,s.last,s.bad⟩):=by
 unfold rRise
 rw [hs,getR_put l (by omega) hr hx r 4096 (by omega),if_neg (by simp)]
 simp only
 rw [List.drop_left]
theorem rDoc_good {s:PR} (h:(rDoc s).2.bad=false):s.bad=false∧∃ n:Nat,(rDoc s).1=s.last+1+n∧s.left=putL n++(rDoc s).2.left∧(rDoc s).1≤4294967296∧(rDoc s).2.last=s.last:=by
 unfold rDoc at h ⊢
 simp only at h ⊢
 split at h
 ·cases h
 ·rename_i h1
  rw [if_neg h1]
  obtain ⟨q1,q2,q3,q4⟩:=rNum_good h
  exact ⟨q1,_,rfl,q2,by omega,q4⟩
theorem rDoc_put {s:PR} {d:Int} {r:List UInt8} (h0:-1≤s.last) (h1:s.last < d) (h2:d≤4294967296) (hs:s.left=putL (d - s.last - 1).toNat++r):rDoc s=(d,⟨r,s.last,s.bad⟩):=by
 unfold rDoc
 rw [rNum_put (by omega) (by omega) hs]
 simp only
 rw [show s.last+1+((d - s.last - 1).toNat:Int)=d by omega,if_neg (by omega)]
theorem rPost_good {s:PR} (h:(rPost s).2.bad=false):s.bad=false∧∃ x,(rPost s).1=[x]∧V1 s.last x∧s.left=putL (x.1 - s.last - 1).toNat++(putR (poss x.2)++putR (atss x.2))++(rPost s).2.left∧(rPost s).2.last=x.1:=by
 unfold rPost rSpots at h ⊢
 split at h
 ·cases h
 ·rename_i h1
  rw [if_neg h1]
  simp only at h ⊢
  obtain ⟨a1,a2,a3,a4,a5,a6⟩:=rRise_good h
  obtain ⟨p1,p2,p3,p4,p5,p6⟩:=rRise_good a1
  obtain ⟨d1,n,d2,d3,d4,d5⟩:=rDoc_good p1
  obtain ⟨P,hP⟩:∃ P,P=(rRise (rDoc s).2).1:=⟨_,rfl⟩
  obtain ⟨A,hA⟩:∃ A,A=(rRise (rRise (rDoc s).2).2).1:=⟨_,rfl⟩
  rw [← hP] at h1 p2 p3 p4 p5 ⊢
  rw [← hA] at h1 a2 a3 a4 a5 ⊢
  have hlen:P.length=A.length:=by
   rcases Decidable.em (P.length=A.length) with h2 | h2
   ·exact h2
   ·exact absurd (.inr h2) h1
  have hpos:0 < P.length:=by
   rcases Nat.eq_zero_or_pos P.length with h2 | h2
   ·exact absurd (.inl h2) h1
   ·exact h2
  have e1:poss (P.zip A)=P:=by unfold poss;rw [List.map_fst_zip];omega
  have e2:atss (P.zip A)=A:=by unfold atss;rw [List.map_snd_zip];omega
  refine ⟨d1,_,rfl,⟨by simp only;omega,d4,by simp only;rw [List.length_zip];omega,by simp only;rw [List.length_zip];omega,by rw [e1];exact p4,by rw [e2];exact a4,fun y hy=>⟨p5 _ (zip_in hy).1,a5 _ (zip_in hy).2⟩⟩,?_,rfl⟩
  simp only
  rw [e1,e2,show ((rDoc s).1 - s.last - 1).toNat=n by omega,d3,p2,a2]
  simp only [List.append_assoc]
theorem rPost_put {l:List Pst} (hl:ValidP l) {i:Nat} (hi:i < l.length) {s:PR} {r:List UInt8} (hb:s.bad=false) (h1:s.last=lastD l i) (h2:s.left=unitB l i++r):rPost s=([pAt l i],⟨r,(pAt l i).1,false⟩):=by
 have q1:=hl.docs _ (pAt_mem hi)
 have w1:=hl.last (Nat.le_of_lt hi)
 have u1:=hl.up i hi
 have f1:=poss_le (hl.fit _ (pAt_mem hi))
 have n1:=poss_len (pAt l i).2
 have s1:=hl.spots _ (pAt_mem hi)
 have s0:=hl.some _ (pAt_mem hi)
 unfold unitB at h2
 rw [← h1] at h2 w1 u1
 simp only [List.append_assoc] at h2
 have e1:=rDoc_put (s:=s) (d:=(pAt l i).1) w1.1 u1 q1.2 h2
 unfold rPost
 rw [e1]
 simp only
 have e2:=rRise_put (s:=⟨putR (poss (pAt l i).2)++(putR (atss (pAt l i).2)++r),s.last,s.bad⟩) (by omega) (hl.pos _ (pAt_mem hi)) f1.1 rfl
 rw [e2]
 simp only
 have e3:=rRise_put (s:=⟨putR (atss (pAt l i).2)++r,s.last,s.bad⟩) (by omega) (hl.at_ _ (pAt_mem hi)) f1.2 rfl
 rw [e3]
 unfold rSpots
 rw [if_neg (by simp only;omega)]
 simp only
 rw [zip_spots,hb]
def SoundAt (R:PR→List Pst×PR) (F:List Pst→Nat→List UInt8) (Q:List Pst→Prop) (i E:Nat):Prop:=
 ∀ s,(R s).2.bad=false→s.bad=false∧(R s).1.length=E - i∧∀ l,Q l→E≤l.length→agrees l i (R s).1→lastD l i=s.last→s.left=cat (F l) i (E - i)++(R s).2.left∧(R s).2.last=lastD l E∧∀ j,i≤j→j < E→V1 (lastD l j) (pAt l j)
theorem part_sound {inside:PR→List Pst×PR} {F F':List Pst→Nat→List UInt8} {Q Q':List Pst→Prop} {i E:Nat} (hiE:i < E) (hQ:∀ l,Q' l→Q l) (hcat:∀ l,Q' l→cat (F' l) i (E - i)=headB l i E (cat (F l) i (E - i))++cat (F l) i (E - i))
  (hin:SoundAt inside F Q i E):SoundAt (rPart inside) F' Q' i E:=by
 intro s h
 unfold rPart rEnd at h ⊢
 simp only at h ⊢
 split at h
 ·cases h
 ·rename_i h1
  rw [if_neg h1]
  obtain ⟨q1,q2,q3⟩:=hin _ h
  obtain ⟨z1,z2,z3,z4⟩:=rNum_good q1
  obtain ⟨d1,n,d2,d3,d4,d5⟩:=rDoc_good z1
  refine ⟨d1,q2,fun l hl htl hag hla=>?_⟩
  obtain ⟨p1,p2,p3⟩:=q3 l (hQ l hl) htl hag (by rw [z4,d5];exact hla)
  refine ⟨?_,p2,p3⟩
  obtain ⟨z,hz⟩:∃ z,z=rNum (rDoc s).2 (rDoc s).2.left.length:=⟨_,rfl⟩
  rw [← hz] at h1 q1 q2 q3 z2 z3 z4 p1 p2 h ⊢
  obtain ⟨q,hq⟩:∃ q,q=inside z.2:=⟨_,rfl⟩
  rw [← hq] at h1 p1 p2 h ⊢
  have e1:q.2.last=(rDoc s).1:=by
   rcases Decidable.em (q.2.last=(rDoc s).1) with h2 | h2
   ·exact h2
   ·exact absurd (.inl h2) h1
  have e2:(q.2.left.length:Int)=(z.2.left.length:Int) - z.1:=by
   rcases Decidable.em ((q.2.left.length:Int)=(z.2.left.length:Int) - z.1) with h2 | h2
   ·exact h2
   ·exact absurd (.inr h2) h1
  have e3:=congrArg List.length p1
  rw [List.length_append] at e3
  have e4:z.1=(cat (F l) i (E - i)).length:=by omega
  have e5:n=((pAt l (E - 1)).1 - lastD l i - 1).toNat:=by
   have e6:lastD l E=(pAt l (E - 1)).1:=by unfold lastD;rw [if_neg (by omega)]
   omega
  rw [hcat l hl,headB,← e4,← e5,d3,z2,p1]
  simp only [List.append_assoc]
theorem part_comp {inside:PR→List Pst×PR} {l:List Pst} (hV:ValidP l) {F F':Nat→List UInt8} {i E:Nat} (hiE:i < E) (hE:E≤l.length) (hcat:cat F' i (E - i)=headB l i E (cat F i (E - i))++cat F i (E - i)) (hb:(cat F i (E - i)).length < 2 ^ 64)
  (hin:∀ s r,s.bad=false→s.last=lastD l i→s.left=cat F i (E - i)++r→inside s=(sl l i E,⟨r,lastD l E,false⟩)):
  ∀ s r,s.bad=false→s.last=lastD l i→s.left=cat F' i (E - i)++r→rPart inside s=(sl l i E,⟨r,lastD l E,false⟩):=by
 intro s r h1 h2 h3
 have w1:=hV.last (show i≤l.length by omega)
 have w2:=hV.last_lt hiE hE
 have w3:=(hV.docs _ (pAt_mem (show E - 1 < l.length by omega))).2
 have e6:lastD l E=(pAt l (E - 1)).1:=by unfold lastD;rw [if_neg (by omega)]
 rw [hcat,headB] at h3
 simp only [List.append_assoc] at h3
 rw [← h2] at h3 w1 w2
 obtain ⟨B,hB⟩:∃ B,B=cat F i (E - i):=⟨_,rfl⟩
 rw [← hB] at h3 hb hin
 have g1:=rDoc_put (s:=s) w1.1 w2 w3 h3
 unfold rPart rEnd
 rw [g1]
 simp only
 rw [rNum_put (n:=B.length) (r:=B++r) (by rw [List.length_append,List.length_append];omega) hb rfl]
 simp only
 rw [hin ⟨B++r,s.last,s.bad⟩ r h1 h2 rfl]
 simp only
 rw [if_neg]
 rw [e6,List.length_append]
 omega
theorem run0_sound (a t:Nat) (hat:a≤t):SoundAt (run0 a t) unitB (fun _=>True) a t:=by
 intro s h
 have:=runP_sound (fun _=>rPost) unitB a 1 t (by omega) hat (fun _=>True) (fun i h1 h2 _ s h=>?_) (t - a) (by omega) s h
 ·rw [show min (a+(t - a) * 1) t=t by omega] at this
  exact this
 ·obtain ⟨q1,x,q2,q3,q4,q5⟩:=rPost_good h
  have e:min (i+1) t=i+1:=by omega
  rw [e]
  refine ⟨q1,by rw [q2];simp,fun l _ htl hag hla=>?_⟩
  rw [q2] at hag
  have hx:pAt l i=x:=hag 0 (by simp)
  rw [show i+1 - i=0+1 by omega,cat,cat,List.nil_append,Nat.add_zero]
  refine ⟨?_,?_,fun j h1 h2=>?_⟩
  ·rw [q4]
   unfold unitB
   rw [hx,hla]
  ·rw [q5,lastD_succ,hx]
  ·obtain rfl:j=i:=by omega
   rw [hx,hla]
   exact q3
theorem run0_comp {l:List Pst} (hV:ValidP l) (a t:Nat) (hat:a≤t) (ht:t≤l.length) (s:PR) (r:List UInt8) (h1:s.bad=false) (h2:s.last=lastD l a) (h3:s.left=cat (unitB l) a (t - a)++r):run0 a t s=(sl l a t,⟨r,lastD l t,false⟩):=by
 have e:min (a+(t - a) * 1) t=t:=by omega
 have:=runP_comp (fun _=>rPost) l (unitB l) a 1 t (by omega) hat (fun i q1 q2 _ s r p1 p2 p3=>?_) (t - a) (by omega) s r h1 h2 (by rw [e];exact h3)
 ·rw [e] at this
  exact this
 ·have e2:min (i+1) t=i+1:=by omega
  rw [e2] at p3 ⊢
  rw [show i+1 - i=0+1 by omega,cat,cat,List.nil_append,Nat.add_zero] at p3
  show rPost s=_
  rw [rPost_put hV (by omega) p1 p2 p3,sl_one (by omega),lastD_succ]
theorem run1_sound (a t:Nat) (hat:a≤t) (ha:a % 16=0) (ht16:t≤a+16):SoundAt (run1 a t) linB (fun l=>min l.length (a+16)=t) a t:=by
 intro s h
 have hk:min (a+(t - a+3) / 4 * 4) t=t:=by omega
 have:=runP_sound (fun i=>rPart (run0 i (min (i+4) t))) linB a 4 t (by omega) hat (fun l=>min l.length (a+16)=t) (fun i h1 h2 h4 s h=>?_) ((t - a+3) / 4) (by omega) s h
 ·rw [hk] at this
  exact this
 ·obtain ⟨E,hE⟩:∃ E,E=min (i+4) t:=⟨_,rfl⟩
  rw [← hE] at h ⊢
  have hS:=part_sound (inside:=run0 i E) (F:=unitB) (F':=linB) (Q:=fun _=>True) (Q':=fun l=>min l.length (a+16)=t) (i:=i) (E:=E) (by omega) (fun _ _=>trivial) (fun l hl=>?_) (run0_sound i E (by omega)) s h
  ·exact ⟨hS.1,hS.2.1,fun l hl htl=>hS.2.2 l hl (by omega)⟩
  ·rw [cat_block l (by omega) (by omega) (by omega),blockB,show min l.length (i+4)=E by omega]
theorem run1_comp {l:List Pst} (hV:ValidP l) (a t:Nat) (hat:a≤t) (ha:a % 16=0) (ht:t=min l.length (a+16)) (s:PR) (r:List UInt8) (h1:s.bad=false) (h2:s.last=lastD l a) (h3:s.left=cat (linB l) a (t - a)++r):run1 a t s=(sl l a t,⟨r,lastD l t,false⟩):=by
 have hf:=hV.few
 have e:min (a+(t - a+3) / 4 * 4) t=t:=by omega
 have:=runP_comp (fun i=>rPart (run0 i (min (i+4) t))) l (linB l) a 4 t (by omega) hat (fun i q1 q2 q4 s r p1 p2 p3=>?_) ((t - a+3) / 4) (by omega) s r h1 h2 (by rw [e];exact h3)
 ·rw [e] at this
  exact this
 ·obtain ⟨E,hE⟩:∃ E,E=min (i+4) t:=⟨_,rfl⟩
  rw [← hE] at p3 ⊢
  have hu:=units_len hV (i:=i) (k:=E - i) (by omega)
  have:90000 * (E - i)≤90000 * 4096:=Nat.mul_le_mul_left _ (by omega)
  exact part_comp hV (by omega) (by omega) (by rw [cat_block l (by omega) (by omega) (by omega),blockB,show min l.length (i+4)=E by omega]) (by omega) (fun s r=>run0_comp hV i E (by omega) (by omega) s r) s r p1 p2 p3
theorem run2_sound (t:Nat):SoundAt (run2 0 t) lin (fun l=>l.length=t) 0 t:=by
 intro s h
 have hk:min (0+(t - 0+15) / 16 * 16) t=t:=by omega
 have:=runP_sound (fun i=>rPart (run1 i (min (i+16) t))) lin 0 16 t (by omega) (by omega) (fun l=>l.length=t) (fun i h1 h2 h4 s h=>?_) ((t - 0+15) / 16) (by omega) s h
 ·rw [hk] at this
  exact this
 ·obtain ⟨E,hE⟩:∃ E,E=min (i+16) t:=⟨_,rfl⟩
  rw [← hE] at h ⊢
  have hS:=part_sound (inside:=run1 i E) (F:=linB) (F':=lin) (Q:=fun l=>min l.length (i+16)=E) (Q':=fun l=>l.length=t) (i:=i) (E:=E) (by omega) (fun l hl=>by omega) (fun l hl=>?_) (run1_sound i E (by omega) (by omega) (by omega)) s h
  ·exact ⟨hS.1,hS.2.1,fun l hl htl=>hS.2.2 l hl (by omega)⟩
  ·rw [cat_group l (by omega) (by omega) (by omega),groupB,show min l.length (i+16)=E by omega]
theorem run2_comp {l:List Pst} (hV:ValidP l) (t:Nat) (ht:t=l.length) (s:PR) (r:List UInt8) (h1:s.bad=false) (h2:s.last=lastD l 0) (h3:s.left=cat (lin l) 0 t++r):run2 0 t s=(l,⟨r,lastD l t,false⟩):=by
 have hf:=hV.few
 have e:min (0+(t - 0+15) / 16 * 16) t=t:=by omega
 have:=runP_comp (fun i=>rPart (run1 i (min (i+16) t))) l (lin l) 0 16 t (by omega) (by omega) (fun i q1 q2 q4 s r p1 p2 p3=>?_) ((t - 0+15) / 16) (by omega) s r h1 h2 (by rw [e];exact h3)
 ·rw [e,ht,sl_all,← ht] at this
  exact this
 ·obtain ⟨E,hE⟩:∃ E,E=min (i+16) t:=⟨_,rfl⟩
  rw [← hE] at p3 ⊢
  have hu:=linBs_len hV (i:=i) (k:=E - i) (by omega)
  have:90020 * (E - i)≤90020 * 4096:=Nat.mul_le_mul_left _ (by omega)
  exact part_comp hV (by omega) (by omega) (by rw [cat_group l (by omega) (by omega) (by omega),groupB,show min l.length (i+16)=E by omega]) (by omega) (fun s r=>run1_comp hV i E (by omega) (by omega) (by omega) s r) s r p1 p2 p3
theorem V1_valid {l:List Pst} (hf:l.length≤4096) (h:∀ j,j < l.length→V1 (lastD l j) (pAt l j)):ValidP l:=by
 have low:∀ j,j≤l.length→-1≤lastD l j:=by
  intro j
  induction j with
  | zero=>intro _;unfold lastD;rw [if_pos rfl];omega
  | succ j ih=>
   intro hj
   have h1:=ih (by omega)
   have h2:=(h j (by omega)).1
   rw [lastD_succ]
   omega
 have at1:∀ x∈l,∃ i,i < l.length∧pAt l i=x:=fun x hx=>pAt_of hx
 exact {
  few:=hf
  spots:=fun x hx=>by obtain ⟨i,hi,rfl⟩:=at1 x hx;exact (h i hi).2.2.2.1
  some:=fun x hx=>by obtain ⟨i,hi,rfl⟩:=at1 x hx;exact (h i hi).2.2.1
  docs:=fun x hx=>by obtain ⟨i,hi,rfl⟩:=at1 x hx;exact ⟨by have:=(h i hi).1;have:=low i (by omega);omega,(h i hi).2.1⟩
  up:=fun i hi=>(h i hi).1
  pos:=fun x hx=>by obtain ⟨i,hi,rfl⟩:=at1 x hx;exact (h i hi).2.2.2.2.1
  at_:=fun x hx=>by obtain ⟨i,hi,rfl⟩:=at1 x hx;exact (h i hi).2.2.2.2.2.1
  fit:=fun x hx=>by obtain ⟨i,hi,rfl⟩:=at1 x hx;exact (h i hi).2.2.2.2.2.2 }
theorem getM_is (b:List UInt8):getM b=getP b:=by
 unfold getM
 by_cases hc:(rAll b).2.bad=true∨0 < (rAll b).2.left.length
 ·rw [if_pos hc]
  rcases getP_err b with h | h
  ·exfalso
   obtain ⟨h1,h2⟩:=getP_some h
   have hV:=(check_ok getP_fit).1 h1
   obtain ⟨l,hl⟩:∃ l,l=(getP b).1:=⟨_,rfl⟩
   rw [← hl] at hV h2
   have hf:=hV.few
   have e1:rNum (rStart b) 4096=(l.length,⟨cat (lin l) 0 l.length,-1,false⟩):=rNum_put (s:=rStart b) (n:=l.length) hf (by omega) h2.symm
   have e2:rAll b=(l,⟨[],lastD l l.length,false⟩):=by
    unfold rAll
    rw [e1]
    exact run2_comp hV l.length rfl _ [] rfl rfl (by simp)
   rw [e2] at hc
   simp at hc
  ·exact h.symm
 ·rw [if_neg hc]
  have hb:(rAll b).2.bad=false:=by
   cases h:(rAll b).2.bad with
   | false=>rfl
   | true=>exact absurd (.inl h) hc
  have hl:(rAll b).2.left=[]:=by
   rcases Nat.eq_zero_or_pos (rAll b).2.left.length with h | h
   ·exact List.eq_nil_of_length_eq_zero h
   ·exact absurd (.inr h) hc
  obtain ⟨q1,q2,q3⟩:=run2_sound (rNum (rStart b) 4096).1 (rNum (rStart b) 4096).2 hb
  obtain ⟨n1,n2,n3,n4⟩:=rNum_good q1
  have q8:(rAll b).1.length=(rNum (rStart b) 4096).1:=by unfold rAll;omega
  obtain ⟨q5,q6,q7⟩:=q3 (rAll b).1 q8 (by omega) (fun j _=>by rw [Nat.zero_add];rfl) (by rw [n4];rfl)
  have hV:ValidP (rAll b).1:=V1_valid (by omega) fun j hj=>q7 j (by omega) (by omega)
  have hput:putP (rAll b).1=b:=by
   have e2:(run2 0 (rNum (rStart b) 4096).1 (rNum (rStart b) 4096).2).2.left=[]:=hl
   rw [e2,List.append_nil,Nat.sub_zero] at q5
   have e3:b=putL (rNum (rStart b) 4096).1++(rNum (rStart b) 4096).2.left:=n2
   unfold putP
   rw [q8]
   exact ((congrArg (putL (rNum (rStart b) 4096).1++·) q5).symm.trans e3.symm)
  have:=getP_put hV
  rw [hput] at this
  exact this.symm
end Go.Proofs.YthcjikpabpgpfaaGreat
