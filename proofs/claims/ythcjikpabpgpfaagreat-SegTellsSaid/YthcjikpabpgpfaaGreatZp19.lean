import Derived.Test.YthcjikpabpgpfaaGreatZp18
import Derived.Test.YthcjikpabpgpfaaGreatZp8
import Derived.Laws.ResultCell
import Derived.Maps.AppendAt
set_option linter.unusedSimpArgs false
set_option maxHeartbeats 16000000
set_option maxRecDepth 100000
namespace Go.Proofs.YthcjikpabpgpfaaGreat
section
def ones:List Nm:=(List.range 256).map λc=>[UInt8.ofNat c]
theorem Zig:ones.length=256:=by simp[ones]
theorem Zkq {c:Nat} (h:c<256):ones[c]?=some [UInt8.ofNat c]:=by
 simp[ones,Ycd h]
def Zet:Voc->List (Int×Int)->Voc×Int
 | v,[]=>(v,0)
 | v,p :: r=>if Zdr v p.1 p.2≠0 then (⟨[],[]⟩,Zdr v p.1 p.2) else Zet (Zf1 v p.1 p.2) r
def Zbc (l:List (Int×Int)):Voc×Int:=Zet ⟨ones,[]⟩ l
structure VOk (V:Voc):Prop where
 short:Qcy V
 tl:V.tok.length<=512
 ml:V.mer.length<=512
 uniq:∀ (i:Nat) (x:Nm),V.tok[i]?=some x->Zbb V.tok x=(i:Int)
 single:∀ c,c<256->V.tok[c]?=some [UInt8.ofNat c]
 mer:∀ i,i<V.mer.length->Zow V i=true
theorem VOk.long {V:Voc} (h:VOk V):256<=V.tok.length:=by
 have:=(Ybb.1 (h.single 255 (by omega))).1
 omega
theorem Zt2 {c d:Nat} (hc:c<256) (hd:d<256) (h:([UInt8.ofNat c]:Nm)=[UInt8.ofNat d]):c=d:=by
 have h1:UInt8.ofNat c=UInt8.ofNat d:=by injection h
 have h2:=congrArg UInt8.toNat h1;rw[Yaa (by show _<256;omega),Yaa (by show _<256;omega)]at h2;exact h2
theorem Zqn:VOk ⟨ones,[]⟩ where
 short:=λx hx=>by
  simp only[ones,Yaz]at hx;obtain⟨c,_,rfl⟩:=hx;exact⟨by simp,by simp⟩
 tl:=by show ones.length<=_;rw[Zig];omega
 ml:=by show 0<=_;omega
 uniq:=λi x hx=>by
  have hi:=(Ybb.1 hx).1;have hi':i<256:=by have h:i<ones.length:=hi;rw[Zig]at h;exact h
  have hx':ones[i]?=some x:=hx;rw[Zkq hi']at hx';cases hx'
  exact Zio (Zkq hi') λj y hj hy=>by
   have hy':ones[j]?=some y:=hy;rw[Zkq (by omega)]at hy';cases hy'
   exact λe=>by have:=Zt2 (by omega) hi' e;omega
 single:=λc hc=>Zkq hc
 mer:=λi hi=>by simp at hi
theorem VOk.check {V:Voc} (h:VOk V):Zqh V=0:=by
 unfold Zqh;have h1:=h.tl;have h2:=h.ml;rw[Yaf (by omega),Yaf,Yaf,Yaf]
 ·rw[Zce h.mer];simp
 ·rw[Zce]
  ·simp
  ·intro c hc
   rw[h.uniq c _ (h.single c hc)];exact Yb0 (by omega)
 ·rw[Zce]
  ·simp
  ·intro k hk
   have hx:V.tok[k]?=some (V.tok[k]'hk):=Yax _;have hs:=h.short _ (Yay (h:=hk));unfold Zoh;rw[Yaw,hx];simp only[Ybw,Yal,decide_eq_true_eq];exact⟨hs.1,hs.2,h.uniq k _ hx⟩
theorem Zcu {V:Voc} {i:Nat} {m:Mg} (hm:V.mer[i]?=some m):Zow V i=true↔(0<=m.a/\m.a<V.tok.length/\0<=m.b/\m.b<V.tok.length/\0<=m.t/\m.t<V.tok.length)/\Zba (V.mer.take i) m.a m.b=false/\V.tok.getD m.t.toNat []=V.tok.getD m.a.toNat []++V.tok.getD m.b.toNat []:=by
 unfold Zow;rw[Yaw,hm];simp only[Ybw,Yal,decide_eq_true_eq,Bool.not_eq_true']
theorem Zf0 {L:List Nm} {x:Nm} {i:Int} (h0:0<=i) (h:i<L.length):(L++[x]).getD i.toNat []=L.getD i.toNat []:=by
 rw[Yaw,Yaw,Yba (by omega)]
theorem VOk.add {V:Voc} (h:VOk V) {a b:Int} (he:Zdr V a b=0):VOk (Zf1 V a b):=by
 unfold Zdr at he;split at he
 ·omega
 rename_i hf;have hf:Zhh V a b=true:=by simpa using hf
 split at he
 ·omega
 rename_i h16;split at he
 ·omega
 rename_i hfull;have hml:=h.ml;have htl:=h.tl;obtain⟨i,j,x,y,ha,hb,hx,hy,hboth,hmer⟩:=Zmz hf;have hi:=(Ybb.1 hx).1;have hj:=(Ybb.1 hy).1;have hxs:=h.short x (Ybz hx);have gx:V.tok.getD a.toNat []=x:=by rw[ha,Yb3,Yaw,hx];rfl
 have gy:V.tok.getD b.toNat []=y:=by rw[hb,Yb3,Yaw,hy];rfl
 unfold Zf1;by_cases hn:Zbb V.tok (Zd6 V a b)<0
 ·rw[Yag hn]
  have hlen:V.tok.length<512:=by omega
  exact {
   short:=λz hz=>by
    rcases Ybj.1 hz with hz|hz
    ·exact h.short z hz
    ·rw[Ybi.1 hz]
     refine⟨?_,by omega⟩;rw[hboth,Yaq];omega
   tl:=by show(V.tok++_).length<=_;rw[Yaq,Yae];omega
   ml:=by show(V.mer++_).length<=_;rw[Yaq,Yae];omega
   uniq:=λk z hz=>by
    have hz':(V.tok++[Zd6 V a b])[k]?=some z:=hz;show Zbb (V.tok++[Zd6 V a b]) z=_;rw[Zjc hn];rcases Yab k V.tok.length with hk|hk
    ·rw[Yba hk]at hz'
     have hu:=h.uniq k z hz';rw[Yaf (λe=>by rw[<- e,hu]at hn;omega),hu]
    ·have hk2:=(Ybb.1 hz').1
     rw[Yaq,Yae]at hk2;obtain rfl:k=V.tok.length:=by omega
     rw[Ybc (Yar _),Ybq]at hz';cases hz'
     rw[Yag rfl]
   single:=λc hc=>by
    show(V.tok++_)[c]?=_;rw[Yba (by have:=h.long;omega)];exact h.single c hc
   mer:=λk hk=>by
    have hk':k<V.mer.length+1:=by have:k<(V.mer++[(⟨a,b,(V.tok.length:Nat)⟩:Mg)]).length:=hk;simpa using this
    rcases Yab k V.mer.length with hkl|hkl
    ·have hm:V.mer[k]?=some (V.mer[k]'hkl):=Yax _
     have hm':(V.mer++[(⟨a,b,(V.tok.length:Nat)⟩:Mg)])[k]?=some (V.mer[k]'hkl):=by rw[Yba hkl];exact hm
     obtain⟨⟨b1,b2,b3,b4,b5,b6⟩,h2,h3⟩:=(Zcu hm).1 (h.mer k hkl);refine(Zcu (V:=⟨_,_⟩) hm').2 ⟨⟨b1,?_,b3,?_,b5,?_⟩,?_,?_⟩
     ·show _<((V.tok++_).length:Int);rw[Yaq,Yae];omega
     ·show _<((V.tok++_).length:Int);rw[Yaq,Yae];omega
     ·show _<((V.tok++_).length:Int);rw[Yaq,Yae];omega
     ·show Zba ((V.mer++_).take k) _ _=false
      rw[Ya8 (by omega)];exact h2
     ·show(V.tok++_).getD _ _=_
      rw[Zf0 b5 b6,Zf0 b1 b2,Zf0 b3 b4];exact h3
    ·obtain rfl:k=V.mer.length:=by omega
     have hm':(V.mer++[(⟨a,b,(V.tok.length:Nat)⟩:Mg)])[V.mer.length]?=some ⟨a,b,(V.tok.length:Nat)⟩:=by
      rw[Ybc (Yar _),Ybq];rfl
     refine(Zcu (V:=⟨_,_⟩) hm').2 ⟨⟨?_,?_,?_,?_,?_,?_⟩,?_,?_⟩
     ·show 0<=a;omega
     ·show a<((V.tok++_).length:Int);rw[Yaq,Yae];omega
     ·show 0<=b;omega
     ·show b<((V.tok++_).length:Int);rw[Yaq,Yae];omega
     ·show 0<=((V.tok.length:Nat):Int);omega
     ·show((V.tok.length:Nat):Int)<((V.tok++_).length:Int);rw[Yaq,Yae];omega
     ·show Zba ((V.mer++_).take V.mer.length) a b=false
      rw[Ya8 (Yar _),Ya6];exact hmer
     ·show(V.tok++[Zd6 V a b]).getD (((V.tok.length:Nat):Int).toNat) []=(V.tok++[Zd6 V a b]).getD a.toNat []++(V.tok++[Zd6 V a b]).getD b.toNat []
      rw[Zf0 (i:=a) (by omega) (by omega),Zf0 (i:=b) (by omega) (by omega),gx,gy,Yb3,Yaw,Ybc (Yar _),Ybq];exact hboth }
 ·rw[Yaf hn]
  rcases Zc1 V.tok (Zd6 V a b)with⟨h1,_⟩|⟨t,h1,h2,_⟩
  ·omega
  have ht:=(Ybb.1 h2).1;exact {
   short:=h.short
   tl:=h.tl
   ml:=by show(V.mer++_).length<=_;rw[Yaq,Yae];omega
   uniq:=h.uniq
   single:=h.single
   mer:=λk hk=>by
    have hk':k<V.mer.length+1:=by have:k<(V.mer++[(⟨a,b,Zbb V.tok (Zd6 V a b)⟩:Mg)]).length:=hk;simpa using this
    rcases Yab k V.mer.length with hkl|hkl
    ·have hm:V.mer[k]?=some (V.mer[k]'hkl):=Yax _
     have hm':(V.mer++[(⟨a,b,Zbb V.tok (Zd6 V a b)⟩:Mg)])[k]?=some (V.mer[k]'hkl):=by rw[Yba hkl];exact hm
     obtain⟨hb',h2',h3⟩:=(Zcu hm).1 (h.mer k hkl);refine(Zcu (V:=⟨_,_⟩) hm').2 ⟨hb',?_,h3⟩;show Zba ((V.mer++_).take k) _ _=false;rw[Ya8 (by omega)];exact h2'
    ·obtain rfl:k=V.mer.length:=by omega
     have hm':(V.mer++[(⟨a,b,Zbb V.tok (Zd6 V a b)⟩:Mg)])[V.mer.length]?=some ⟨a,b,Zbb V.tok (Zd6 V a b)⟩:=by
      rw[Ybc (Yar _),Ybq];rfl
     refine(Zcu (V:=⟨_,_⟩) hm').2 ⟨⟨?_,?_,?_,?_,?_,?_⟩,?_,?_⟩
     ·show 0<=a;omega
     ·show a<(V.tok.length:Int);omega
     ·show 0<=b;omega
     ·show b<(V.tok.length:Int);omega
     ·show 0<=Zbb V.tok (Zd6 V a b);omega
     ·show Zbb V.tok (Zd6 V a b)<(V.tok.length:Int);omega
     ·show Zba ((V.mer++_).take V.mer.length) a b=false
      rw[Ya8 (Yar _),Ya6];exact hmer
     ·show V.tok.getD (Zbb V.tok (Zd6 V a b)).toNat []=V.tok.getD a.toNat []++V.tok.getD b.toNat []
      rw[gx,gy,h1,Yb3,Yaw,h2];exact hboth }
theorem Ztt:∀ (l:List (Int×Int)) (V:Voc),VOk V->(Zet V l).2=0->VOk (Zet V l).1
 | [],V,h,_=>h
 | p :: r,V,h,he=>by
  simp only[Zet]at he ⊢;split at he
  ·rename_i h1;exact absurd he h1
  ·rename_i h1
   rw[Yaf h1];exact Ztt r _ (h.add (by simpa using h1)) he
end
section
open Go.RowKit Go.Maps Go.WideMaps
def Zcr (L:List Nm) (l:List Int):Nat->Nm
 | 0=>[]
 | k+1=>if (Zcr L l k).length<=4096 then Zcr L l k++tokI L (l.getD k 0) else Zcr L l k
def Zft (L:List Nm) (i:Int):Prop:=0<=i/\i<L.length
instance (L:List Nm) (i:Int):Decidable (Zft L i):=by unfold Zft;infer_instance
theorem Zx6 {L:List Nm} {l:List Int} {k I:Nat} {x:Nm} (hi:l[k]?=some (I:Int)) (hx:L[I]?=some x) (h:(Zcr L l k).length<=4096):Zcr L l (k+1)=Zcr L l k++x:=by
 have hlt:=(Ybb.1 hx).1;simp only[Zcr,tokI,Yaw,hi,Ybw,Yb3,hx];rw[Yag h,Yag ⟨by omega,by omega⟩]
theorem Qb8 {L:List Nm} {l:List Int} {k:Nat} (h:¬ (Zcr L l k).length<=4096):Zcr L l (k+1)=Zcr L l k:=by
 simp only[Zcr];rw[Yaf h]
def decB (L:List Nm) (l:List Int):Nm×Nat:=
 if ∀ i∈l,Zft L i then (if 4096<(Zcr L l l.length).length then ([],2) else (Zcr L l l.length,0)) else ([],1)
theorem Qa8 {L:List Nm} {l:List Int} {i:Int} {k:Nat} (hi:l[k]?=some i) (h:¬ Zft L i):decB L l=([],1):=by
 unfold decB;rw[Yaf λe=>h (e i (Ybz hi))]
theorem Qbx {L:List Nm} {l:List Int} (h:∀ (j:Nat) (i:Int),l[j]?=some i->Zft L i):decB L l=if 4096<(Zcr L l l.length).length then ([],2) else (Zcr L l l.length,0):=by
 unfold decB;rw[Yag λi hi=>by obtain⟨j,hj⟩:=List.mem_iff_getElem?.1 hi;exact h j i hj]
def decT (L:List Nm) (l:List Int):Nm:=Zbg L l l.length
def Zc8 (L:List Nm) (l:List Int):Int:=if ∀ i∈l,Zft L i then (if 4096<(decT L l).length then 2 else 0) else 1
def Zca (L:List Nm) (l:List Int) (k:Nat):List Int:=(List.range k).map λj=>((Zbg L l j).length:Int)
theorem Zic (L:List Nm) (l:List Int) (k:Nat):Zca L l (k+1)=Zca L l k++[((Zbg L l k).length:Int)]:=by unfold Zca;rw[List.range_succ,Ybe];rfl
theorem Zew (L:List Nm) (l:List Int) (k:Nat):(Zca L l k).length=k:=by simp[Zca]
def decR (L:List Nm) (l:List Int):Nm:=if Zc8 L l=0 then decT L l else []
def Zch (L:List Nm) (l:List Int):List Int:=if Zc8 L l=0 then Zca L l l.length else []
theorem Zvm (L:List Nm) (l:List Int):0<=Zc8 L l/\Zc8 L l<=2:=by unfold Zc8;split<;>(try split)<;>omega
def encR (M:List Mg) (s:Nm):List Int:=if 4096<s.length then [] else encL M s
def encE (s:Nm):Int:=if 4096<s.length then 2 else 0
def TokI (V:Voc) (x:Int):Prop:=0<=x/\x<V.tok.length
theorem VOk.to_in {V:Voc} (h:VOk V) {k:Nat} (hk:k<V.mer.length):TokI V (toOf V.mer k):=by
 have hm:V.mer[k]?=some V.mer[k]:=Yax hk;have h1:=((Zcu hm).1 (h.mer k hk)).1;have e:toOf V.mer k=V.mer[k].t:=by simp[toOf,Yaw,hm]
 rw[e];exact⟨h1.2.2.2.2.1,h1.2.2.2.2.2⟩
theorem Zrt {l:List Int} {i:Nat} {t x:Int} (h:x∈Za2 l i t):x∈l\/x=t:=by
 unfold Za2 at h;rcases Ybj.1 h with h|h
 ·exact .inl (Yce h)
 ·rcases Yat.1 h with h|h
  ·exact .inr h
  ·exact .inl (Ycf h)
theorem VOk.enc_in {V:Voc} (h:VOk V) (s:Nm):∀ x∈encL V.mer s,TokI V x:=by
 unfold encL;refine Zeu (M:=V.mer) (Q:=λl=>∀ x∈l,TokI V x) ?_ _ _ ?_
 ·intro l i k hl hk x hx
  obtain⟨a,b,_,_,h3⟩:=Zci hk;rcases Zrt hx with h4|h4
  ·exact hl x h4
  ·rw[h4]
   exact h.to_in (Zf3 h3).1
 ·intro x hx
  obtain⟨c,_,rfl⟩:=Yaz.1 hx;have:=h.long
  have:=c.toNat_lt
  exact⟨by omega,by omega⟩
theorem VOk.s16 {V:Voc} (h:VOk V):∀ x∈V.tok,x.length<=4096:=λx hx=>by have:=h.short x hx;omega
theorem Zs0 (M:List Mg) (s:Nm):(encR M s).length<=4096:=by
 unfold encR;split
 ·exact Ybd _
 ·have:=Qay M s;omega
theorem Qeh {L:List Nm} {l:List Int} (h:Zc8 L l=0):(decT L l).length<=4096:=by
 unfold Zc8 at h;split at h
 ·split at h
  ·omega
  ·omega
 ·omega
theorem Zhn (L:List Nm) (l:List Int):∀ x∈Zch L l,0<=x/\x<=4096:=by
 unfold Zch;split
 ·rename_i h
  intro x hx;obtain⟨j,hj,rfl⟩:=Yaz.1 hx;have h1:=Zfc L l (Nat.le_of_lt (List.mem_range.1 hj));have h2:=Qeh h;unfold decT at h2;exact⟨by omega,by omega⟩
 ·intro x hx;cases hx
theorem Zkx {L:List Nm} {l:List Int}:(Zch L l).length<=l.length:=by
 unfold Zch;split
 ·rw[Zew];exact Yar _
 ·exact Ybd _
theorem Znq {M:List Mg} {s:Nm} (h:s.length<=4096):encR M s=encL M s:=by unfold encR;rw[Yaf (by omega)]
theorem Qej {s:Nm} (h:s.length<=4096):encE s=0:=by unfold encE;rw[Yaf (by omega)]
theorem Zl2 {L:List Nm} {l:List Int}:∀ k,k<=l.length->((Zbg L l k).length<=4096->Zcr L l k=Zbg L l k)/\(4096<(Zbg L l k).length->4096<(Zcr L l k).length)
 | 0,_=>⟨λ_=>rfl,λh=>by simp[Zbg]at h⟩
 | k+1,hk=>by
  obtain⟨h1,h2⟩:=Zl2 (L:=L) (l:=l) k (by omega);have hm:(Zbg L l k).length<=(Zbg L l (k+1)).length:=Zfc L l (Nat.le_succ k);constructor
  ·intro h
   have e:=h1 (by omega);rw[Zcr,Zbg,e,Yag (by omega)]
  ·intro h
   rcases Yab 4096 (Zbg L l k).length with h3|h3
   ·have:=h2 h3
    rw[Zcr,Yaf (by omega)];exact this
   ·have e:=h1 h3
    rw[Zcr,e,Yag h3];rw[Zbg]at h;exact h
theorem Qd9 (L:List Nm) (l:List Int):(decB L l).1=decR L l/\((decB L l).2:Int)=Zc8 L l:=by
 obtain⟨h1,h2⟩:=Zl2 (L:=L) (l:=l) l.length (Yar _);by_cases ha:∀ i∈l,Zft L i
 ·have hw:Zc8 L l=if 4096<(decT L l).length then 2 else 0:=by unfold Zc8;rw[Yag ha]
  rcases Yab 4096 (Zbg L l l.length).length with h3|h3
  ·rw[Yag (show 4096<(decT L l).length from h3)]at hw
   have hd:decB L l=([],2):=by unfold decB;rw[Yag ha,Yag (h2 h3)]
   rw[hd,hw];unfold decR;rw[Yaf (by rw[hw];omega)];exact⟨rfl,rfl⟩
  ·have e:=h1 h3
   rw[Yaf (show ¬ 4096<(decT L l).length by unfold decT;omega)]at hw;have hd:decB L l=(decT L l,0):=by unfold decB;rw[Yag ha,e,Yaf (by omega)];rfl
   rw[hd,hw];unfold decR;rw[Yag hw];exact⟨rfl,rfl⟩
 ·have hw:Zc8 L l=1:=by unfold Zc8;rw[Yaf ha]
  have hd:decB L l=([],1):=by unfold decB;rw[Yaf ha]
  rw[hd,hw];unfold decR;rw[Yaf (by rw[hw];omega)];exact⟨rfl,rfl⟩
theorem Qa1 {L:List Nm} {l:List Int} (h:Zc8 L l=0):(decT L l).length<=4096:=by
 unfold Zc8 at h;split at h
 ·split at h
  ·omega
  ·omega
 ·omega
end
section
def docM (V:Voc) (i:Nat) (p:Nm×Nm):MDoc:=⟨i,encR V.mer p.2,Zch V.tok (encR V.mer p.2)⟩
def Zcd (V:Voc) (l:List (Nm×Nm)):List MDoc:=l.mapIdx (docM V)
def segM (V:Voc) (l:List (Nm×Nm)) (k:Nat):List MDoc:=Zof (Zcd V l) k
theorem Qb9 {V:Voc} {l:List (Nm×Nm)} {i:Nat} {p:Nm×Nm} (h:l[i]?=some p):mD (Zcd V l) i=docM V i p:=by
 refine Zq8 ?_;unfold Zcd;rw[List.getElem?_mapIdx,h];rfl
theorem Zkg {V:Voc} {l:List (Nm×Nm)} {i:Nat} {p:Nm×Nm} (h:l[i]?=some p):segM V l (i+1)=mAdd (segM V l i) (docM V i p):=by
 unfold segM;rw[Zof,Qb9 h]
theorem Zih {V:Voc} (hV:VOk V) (i:Nat) (p:Nm×Nm):(∀ y∈(docM V i p).T,0<=y/\y<512)/\∀ y∈(docM V i p).S,0<=y/\y<=4096:=by
 refine⟨λy hy=>?_,Zhn _ _⟩;have hy':y∈encR V.mer p.2:=hy;unfold encR at hy';split at hy'
 ·simp at hy'
 ·have h1:=hV.enc_in p.2 y hy'
  have:=hV.tl
  have:=h1.1
  have:=h1.2
  omega
theorem Znm {V:Voc} (hV:VOk V) (l:List (Nm×Nm)) {k:Nat} (hk:k<=l.length):MWF (segM V l k):=by
 refine Zty (λx hx=>?_) k (by unfold Zcd;rw[List.length_mapIdx];exact hk);obtain⟨i,hi⟩:=List.mem_iff_getElem?.1 hx;unfold Zcd at hi;rw[List.getElem?_mapIdx]at hi;cases hp:l[i]? with
 | none=>rw[hp]at hi;simp at hi
 | some p=>
  rw[hp]at hi;simp at hi;subst hi;obtain⟨h1,h2⟩:=Zih hV i p;exact⟨λy hy=>by have:=h1 y hy;omega,λy hy=>by have:=h2 y hy;omega⟩
theorem Qaj (L:List MDoc) (x:MDoc):totT (mAdd L x)<=totT L+4096/\(mAdd L x).length<=L.length+1:=by
 unfold mAdd;split
 ·rename_i h
  have h2:=(Zw6 h).2.1;rw[Zee,Yaq];simp only[totT,Ya2,List.map_nil,List.sum_cons,List.sum_nil,Yae];omega
 ·omega
theorem Zsy (V:Voc) (l:List (Nm×Nm)):∀ k,totT (segM V l k)<=k*4096/\(segM V l k).length<=k
 | 0=>by simp[segM,Zof,totT]
 | k+1=>by
  obtain⟨h1,h2⟩:=Zsy V l k;have h3:=Qaj (Zof (Zcd V l) k) (mD (Zcd V l) k);unfold segM at h1 h2 ⊢;rw[Zof];omega
theorem Ze1 {L:List MDoc} (hL:MWF L) {t:Int} (ht:t∈Zas L):0<=t/\t<=9223372036854775807:=by
 obtain⟨x,hx,h⟩:=terms_mem.1 ht;have hd:=hL.ok x hx;obtain⟨i,hi,e⟩:=List.mem_iff_getElem.1 h;have h1:=(hd.tok hi).1;rw[Yaw,Yax hi,Ybw,e]at h1;exact⟨h1,hd.fit.1 t h⟩
def docF (p:Nm×Nm):Nm:=putF (putL p.1.length++p.1++p.2)
def Zd5 (L:List MDoc) (t:Int):Nm:=putL t.toNat++putE (Zax L t)
def Zfg (L:List MDoc) (t:Int):Nm:=putF (Zd5 L t)
def Zpw (n m:Nat):Nm:=putF (putL n++putL m)
def segB (V:Voc) (l:List (Nm×Nm)):Nm:=Zpw l.length (Zas (segM V l l.length)).length++l.flatMap docF++(Zas (segM V l l.length)).flatMap (Zfg (segM V l l.length))
theorem Zhf {b:Nm} (h:b.length<2 ^ 64):(putF b).length<=b.length+14:=by
 rw[Zj0];have:=Zao b.length h
 omega
theorem Zv4 {L:List MDoc} (hL:MWF L) (t:Int):(putE (Zax L t)).length<=368803860:=by
 unfold putE;split
 ·exact Zsm (Zdq hL t)
 ·simp
theorem Zns {L:List MDoc} (hL:MWF L) {t:Int} (ht:t<=9223372036854775807):(Zd5 L t).length<=368803870:=by
 unfold Zd5;rw[Yaq];have h1:=Zv4 hL t;have h2:=Zao t.toNat (by omega);omega
theorem Zmw {L:List MDoc} (hL:MWF L) {t:Int} (ht:t<=9223372036854775807):(Zfg L t).length<=368803900:=by
 have h1:=Zns hL ht;have h2:=Zhf (b:=Zd5 L t) (by omega);unfold Zfg;omega
theorem Znf {p:Nm×Nm} (hp:Zf8 p):(docF p).length<=4200:=by
 obtain⟨h1,h2,h3⟩:=hp;have h4:=Zao p.1.length (by omega);have h5:=Zhf (b:=putL p.1.length++p.1++p.2) (by simp only[Yaq];omega);unfold docF;simp only[Yaq]at h5;omega
theorem Zi4 {α:Type} (f:α->Nm) (c:Nat):∀ l:List α,(∀ x∈l,(f x).length<=c)->(l.flatMap f).length<=l.length*c
 | [],_=>by simp
 | a :: r,h=>by
  rw[Yan,Yaq,Yah,Nat.add_mul];have h1:=Zi4 f c r λx hx=>h x (Yap _ hx);have h2:=h a (Yam ..);omega
theorem Zh6 {α:Type} (f:α->Nm) {l:List α} {k:Nat} {x:α} (h:l[k]?=some x):(l.take (k+1)).flatMap f=(l.take k).flatMap f++f x:=by
 rw[Ya5,h];simp
theorem Zlk (L:List Nm) (l:List Int):∀ k,k<=l.length->Zbg L l k=(l.take k).flatMap (tokI L)
 | 0,_=>by simp[Zbg]
 | k+1,h=>by
  have e:l[k]?=some (l[k]'(by omega)):=Yax _;rw[Zbg,Zlk L l k (by omega),Ya5,e,Ybg,Yaw,e];simp
theorem Zwz (L:List Nm) (l:List Int):decT L l=l.flatMap (tokI L):=by
 unfold decT;rw[Zlk L l _ (Yar _),Ya6]
theorem VOk.to_text {V:Voc} (h:VOk V) {k:Nat} {m:Mg} (hm:V.mer[k]?=some m):tokI V.tok (toOf V.mer k)=tokI V.tok m.a++tokI V.tok m.b:=by
 have e:toOf V.mer k=m.t:=by simp[toOf,Yaw,hm]
 obtain⟨⟨b1,b2,b3,b4,b5,b6⟩,_,h3⟩:=(Zcu hm).1 (h.mer k (Ybb.1 hm).1);rw[e];unfold tokI;rw[Yag ⟨b5,b6⟩,Yag ⟨b1,b2⟩,Yag ⟨b3,b4⟩,h3]
theorem Zvr {l:List Int} {i:Nat} {a b:Int} (ha:l[i]?=some a) (hb:l[i+1]?=some b):l=l.take i++a :: b :: l.drop (i+2):=by
 have h1:l.drop i=a :: l.drop (i+1):=by
  obtain⟨h,e⟩:=Ybb.1 ha;rw[Ycg h,e]
 have h2:l.drop (i+1)=b :: l.drop (i+2):=by
  obtain⟨h,e⟩:=Ybb.1 hb;rw[Ycg h,e]
 rw[<- h2,<- h1,Yau]
theorem VOk.enc_text {V:Voc} (h:VOk V) (s:Nm):(encL V.mer s).flatMap (tokI V.tok)=s:=by
 unfold encL;refine Zeu (M:=V.mer) (Q:=λl=>l.flatMap (tokI V.tok)=s) ?_ _ _ ?_
 ·intro l i k hl hk
  obtain⟨a,b,ha,hb,h3⟩:=Zci hk;obtain⟨_,m,hm,rfl,rfl⟩:=Zf3 h3;have e:=Zvr ha hb;rw[<- hl];conv=>rhs;rw[e]
  unfold Za2;simp only[Ybg,Yan,Yao];rw[h.to_text hm,Yao]
 ·unfold Zb6
  rw[List.flatMap_map];have:∀ c:UInt8,tokI V.tok (c.toNat:Int)=[c]:=λc=>by
   have h1:=h.single c.toNat c.toNat_lt;have h2:=h.long;have h3:=c.toNat_lt;unfold tokI;rw[Yag ⟨by omega,by omega⟩,Yb3,Yaw,h1];simp
  simp only[this];simp
theorem VOk.enc_walk {V:Voc} (h:VOk V) {s:Nm} (hs:s.length<=4096):Zc8 V.tok (encL V.mer s)=0/\decR V.tok (encL V.mer s)=s:=by
 have e:decT V.tok (encL V.mer s)=s:=by rw[Zwz,h.enc_text]
 have h0:Zc8 V.tok (encL V.mer s)=0:=by
  unfold Zc8;rw[Yag (show ∀ i∈encL V.mer s,Zft V.tok i from h.enc_in s),Yaf (by rw[e];omega)]
 refine⟨h0,?_⟩;unfold decR;rw[Yag h0,e]
end
section
open Go.RowKit Go.Maps Go.WideMaps
theorem Zal {P:Program} {fn:Func} {p u:Tmp} {ty:TypeId} (h:fn.results=#[.cell p ty,.tmp u]) (tmps:Array Value) (w:World) (g:Nat) (t:TypeId) (cs:Array Value) (fr:Nat×Nat) (d:TypeDesc)
  (hp:tmps.getD p undef=.pointer (some ⟨g,0,none⟩)) (hg:w.heap[g]?=some (.cells cs t fr))
  (hu:P.underlying ty=some d) (hd:(match d with| .struct _| .array _ _=>true|_=>false)=true) (hi:(P.info? ty).map (·.size)=some cs.size):
  (results fn tmps).run P w=.ok (.tuple #[.agg cs,tmps.getD u undef]) w:=by
 rw[results_cell_tmp h,hp];simp[asAddr,run_loadVar_row w g t ty cs fr d hg hu hd hi,Result.andThen]
theorem Zaz (g k:Nat):(⟨g,0,none⟩:Addr).add k=⟨g,k,none⟩:=by unfold Addr.add;split<;>simp_all
theorem Zbx:(Tryz.prog.info? 30).map (·.size)=some 2:=by kernel_rfl
theorem Zqa {w:World} {g:Nat} {t:TypeId} {cs:Array Value} (hb:Blk w g t cs) (hcs:∀ (i:Nat) (c:UInt8),cs[i]?≠some (byteV c)) (A:Option Addr) (x:Nm) (hx:BytesIn w A x.length x):∀ ad,A=some ad->0<x.length->ad.block≠g:=λad e h0 hg=>by
 subst e;obtain⟨_,c,e1,_,hc⟩:=hx.at 0 h0;cases e1
 have:w.cell? ad=some (byteV c):=by simpa[Addr.add,byteV]using hc
 have h2:w.cell? ad=cs[ad.off]?:=by
  have hb':w.heap[ad.block]?=some (.cells cs t (0,0)):=by rw[hg];exact hb
  unfold World.cell?;rw[hb'];by_cases hs:ad.spot.isSome=true
  ·unfold World.cell? at this
   rw[hb']at this;simp[hs]at this
  ·simp[hs]
 rw[h2]at this;exact hcs _ _ this
theorem Zwx {j:Nat} (h:j<256):ones.take (j+1)=ones.take j++[[UInt8.ofNat j]]:=by
 rw[Ya5,Zkq h];rfl
theorem Zf5 {w:World} {base base':Nat} {e:TypeId} {size n:Nat} {v:Value} {xs:List Value} (h:w.ownsRow base e size v n xs) (hb:base'<=base):w.ownsRow base' e size v n xs:=
 ⟨h.1,h.2.imp id λ⟨g,cap,cur,h1,h2,h3⟩=>⟨g,cap,cur,h1,Ybu hb h2,h3⟩⟩
def Zmy (w:World) (l:List Int) (r:Int) (e:Ending) (w':World):Prop:=
 ∃ v,e=.returned (.tuple #[v,.int .i64 r])/\w'.ownsRow w.heap.size 3 1 v l.length (l.map i64V)/\Below w.heap.size w w'
def TxtOut (w:World) (s:Nm) (r:Int) (e:Ending) (w':World):Prop:=
 ∃ v,e=.returned (.tuple #[v,.int .i64 r])/\w'.ownsRow w.heap.size 5 1 v s.length (s.map byteV)/\Below w.heap.size w w'
def Qcs (w:World) (s:Nm) (k:Nat) (r:Int) (e:Ending) (w':World):Prop:=
 ∃ A c,e=.returned (.tuple #[.slice A k c,.int .i64 r])/\BytesIn w' A k s/\k<=c/\Below w.heap.size w w'
theorem TxtOut.is {w w':World} {s:Nm} {r:Int} {e:Ending} {k:Nat} (h:TxtOut w s r e w') (hk:s.length=k) (hn:k<=1099511627776):Qcs w s k r e w':=by
 obtain⟨v,rfl,h1,h2⟩:=h;obtain⟨A,c,rfl,hc⟩:=Za0 h1;subst hk;exact⟨A,c,rfl,BytesIn.own h1 (by unfold maxLen;omega),hc,h2⟩
theorem Qez {w:World} {ad:Addr} {v:Value} (h:w.cell? (ad.add 1)=some v):w.cell? ⟨ad.block,ad.off+1,none⟩=some v:=by
 have e:ad.add 1=⟨(ad.add 0).block,(ad.add 0).off+1,none⟩:=Zcy ad 0 1 (by omega);have e0:ad.add 0=ad:=by simp[Addr.add]
 rw[e,e0]at h;exact h
theorem Zdy {w:World} {A B:Option Addr} {n m ca cb:Nat} (g:Nat) (h:Blk w g 30 #[.slice A n ca,.slice B m cb]):w.cell? ⟨g,0,none⟩=some (.slice A n ca)/\w.cell? ⟨g,1,none⟩=some (.slice B m cb):=by
 have h0:=h.cell 0;have h1:=h.cell 1;exact⟨h0,h1⟩
theorem Zb9 {w:World} {t:TypeId} {x:Value}:∀ (j:Nat) (u:Value),[x][j]?=some u->(w.alloc (.cells #[x] t)).cell? ((⟨w.heap.size,0,none⟩:Addr).add j)=some u:=λj u hu=>by
 rw[Zaz,(Blk.new w t #[x]).cell j];simpa using hu
theorem Zgi {V:Voc} (hO:VOk V) {t:Nat} {x:Nm} (hx:V.tok[t]?=some x) (h1:x.length=1):t<256/\x=[UInt8.ofNat t]:=by
 obtain⟨y,rfl⟩:∃ y,x=[y]:=List.length_eq_one_iff.1 h1;have h2:=hO.single y.toNat (y.toBitVec.isLt);have e:UInt8.ofNat y.toNat=y:=by simp
 rw[e]at h2;have h3:=hO.uniq t _ hx;have h4:=hO.uniq y.toNat _ h2;have h5:t=y.toNat:=by omega
 subst h5;exact⟨y.toBitVec.isLt,by rw[e]⟩
theorem Zb2 {w:World} {base:Nat} {v:Value} {l:List Int} (h:w.ownsRow base 3 1 v l.length (l.map i64V)) {p:Nat} {x:Int} (hx:l[p]?=some x):∃ ad c,v=.slice (some ad) l.length c/\w.cell? (ad.add p)=some (.int .i64 x)/\l.length<=c:=by
 obtain⟨A,c,e,hc⟩:=Za0 h;have hp:=(Ybb.1 hx).1;cases A with
 | none=>
  subst e;rcases h.2 with⟨h1,h2⟩|⟨g,cap,cur,h1,_⟩
  ·omega
  ·cases h1
 | some ad=>
  refine⟨ad,c,e,?_,hc⟩;subst e;exact(Zbj h).cells ad rfl p (.int .i64 x) (by rw[Ych,hx];rfl)
structure SrcN (w:World) (A:Option Addr) (m size:Nat) (xs:List Value):Prop where
 len:xs.length=m*size
 cells:∀ ad,A=some ad->∀ j u,xs[j]?=some u->w.cell? (ad.add j)=some u
 nil:A=none->m=0
theorem Zq4 {P:Program} (w:World) (base:Nat) (t ty e:TypeId) (i:TypeInfo) (z:Value) (size bytes:Nat) (ht:P.underlying t=some (.slice e)) (hi:P.info? e=some i) (hz:i.zero=some z)
  (hsize:i.size=size) (hby:i.bytes=bytes) (hzs:z.cells.size=size) (hsz:0<size) (v:Value) (n:Nat) (xs:List Value) (hown:w.ownsRow base e size v n xs)
  (A:Option Addr) (m c:Nat) (news:List Value) (hr:SrcN w A m size news) (h1:∀ u∈news,u.oneCell'=true)
  (h63:n+m<=maxLen) (hbytes:(n+m)*bytes<=140737488355328) (hbase:base<=w.heap.size):
  ∃ v' w',(Builtin.append_ #[t,t] ty #[v,.slice A m c]).run P w=.ok v' w'/\w'.ownsRow base e size v' (n+m) (xs++news)/\w.grownBy w' v.ownBlock/\
   (v'.ownBlock=v.ownBlock\/v'.ownBlock=some w.heap.size):=by
 cases A with
 | none=>
  have hm:=hr.nil rfl;subst hm;have hn:news=[]:=Ya0 (by rw[hr.len];omega);subst hn;refine⟨v,w,?_,by simpa using hown,World.grownBy.refl w _,.inl rfl⟩;rcases hown.2 with⟨rfl,rfl⟩|⟨g,cap,cur,rfl,_,_,hnc,_⟩
  ·simp[Builtin.append_,run_underlying ht,sizeOf,typeInfo,hi,Builtin.lenOf,Builtin.firstCells]
  ·simp[Builtin.append_,run_underlying ht,sizeOf,typeInfo,hi,Builtin.lenOf,Builtin.firstCells,hnc,storeCells]
 | some ad=>
  obtain⟨v',w',hrun,h2,h3,_,h5⟩:=run_append_own_at (P:=P) w base t ty e i z size bytes ht hi hz hsize hby hzs hsz v n xs hown ad m c news hr.len (hr.cells ad rfl) h1 h63 hbytes hbase;exact⟨v',w',hrun,h2,h3,h5⟩
theorem Zbq {P:Program} (w:World) {ops:Array Oper} {o:Oper} {a:Act} {K:Act->World->Prop} {Q:Exit->Act->World->Prop} {E:Prop} (hgd:o.guard=none) (s x:Operand) (t:TypeId)
  (ho:o.op=.call { callee:=.builtin .append,args:=#[s,x],argTypes:=#[t,t] })
  (base:Nat) (e:TypeId) (i:TypeInfo) (z:Value) (size bytes:Nat) (ht:P.underlying t=some (.slice e)) (hi:P.info? e=some i) (hz:i.zero=some z)
  (hsize:i.size=size) (hby:i.bytes=bytes) (hzs:z.cells.size=size) (hsz:0<size)
  (v:Value) (n:Nat) (xs:List Value) (hs:a.eval s=v) (hown:w.ownsRow base e size v n xs)
  (A:Option Addr) (m c:Nat) (news:List Value) (hx:a.eval x=.slice A m c) (hr:SrcN w A m size news) (h1:∀ u∈news,u.oneCell'=true)
  (h63:n+m<=maxLen) (hbytes:(n+m)*bytes<=140737488355328) (hbase:base<=w.heap.size)
  (h:∀ v' w',w'.ownsRow base e size v' (n+m) (xs++news)->w.grownBy w' v.ownBlock->(v'.ownBlock=v.ownBlock\/v'.ownBlock=some w.heap.size)->K (a.put o.dst v') w'):
  if Region.wanted o (yielded ops a.tmps)=true then Oper.wp P o a w K Q else E:=by
 have hw:Region.wanted o (yielded ops a.tmps)=true:=by simp[Region.wanted,hgd]
 rw[Yag hw];obtain⟨v',w',hrun,h2,h3,h4⟩:=Zq4 (P:=P) w base t o.type e i z size bytes ht hi hz hsize hby hzs hsz v n xs hown A m c news hr h1 h63 hbytes hbase;unfold Oper.wp execOp;simp only[ho,resolve,invoke,builtin,Sem.run_bind,Sem.run_pure,Result.andThen_ok,List.map_toArray,Ya2,List.map_nil,hs,hx,hrun];exact h v' w' h2 h3 h4
theorem Zjf {α:Type} {f:α->List Value} {s:Nat} (hs:∀ a,(f a).length=s):∀ (L:List α) (i j:Nat) (a:α) (u:Value),L[i]?=some a->(f a)[j]?=some u->(L.flatMap f)[i*s+j]?=some u
 | [],i,j,a,u,h1,_=>by simp at h1
 | b :: r,i,j,a,u,h1,h2=>by
  have hj:j<s:=by have:=(Ybb.1 h2).1;rw[hs]at this;exact this
  rw[Yan];cases i with
  | zero=>
   simp at h1;subst h1;rw[Yba (by rw[hs];omega)];simpa using h2
  | succ i=>
   simp at h1;rw[Ybc (by rw[hs,Nat.add_mul];omega)];have:(i+1)*s+j-(f b).length=i*s+j:=by rw[hs,Nat.add_mul];omega
   rw[this];exact Zjf hs r i j a u h1 h2
theorem Qb6 {α:Type} {f:α->List Value} {s:Nat} (hs0:0<s) (hs:∀ a,(f a).length=s) (L:List α) (q:Nat) (u:Value) (h:(L.flatMap f)[q]?=some u):∃ a,L[q/s]?=some a/\(f a)[q % s]?=some u:=by
 have hlen:∀ L:List α,(L.flatMap f).length=L.length*s:=λL=>by
  induction L with
  | nil=>simp
  | cons a r ih=>rw[Yan,Yaq,ih,hs,Yah,Nat.add_mul];omega
 have hq:=(Ybb.1 h).1;rw[hlen]at hq;have hi:q/s<L.length:=(Nat.div_lt_iff_lt_mul hs0).2 hq;have ha:L[q/s]?=some (L[q/s]'hi):=Yax _;have hj:q % s<(f (L[q/s]'hi)).length:=by rw[hs];exact Nat.mod_lt _ hs0
 have hu:=Zjf hs L (q/s) (q % s) _ _ ha (Yax hj);have e:q/s*s+q % s=q:=by rw[Nat.mul_comm];exact Nat.div_add_mod q s
 rw[e,h]at hu;exact⟨_,ha,by rw[hu];exact Yax hj⟩
end
section
theorem Zha (p:Int×Int):∀ (l:List (Int×Int)) (V:Voc),(Zet V l).2≠0->Zet V (l++[p])=Zet V l
 | [],V,h=>absurd rfl h
 | q :: r,V,h=>by
  rw[Yac];by_cases hq:Zdr V q.1 q.2≠0
  ·simp only[Zet,Yag hq]
  ·simp only[Zet,Yaf hq]at h ⊢
   exact Zha p r _ h
end
section
open Go.RowKit Go.Maps Go.WideMaps
theorem Zqc {L:List Nm} {k:Nat} {x:Nm} (hx:L[k]?=some x):Zbb L x=(k:Int)↔Zbb (L.take k) x<0:=by
 have hk:=(Ybb.1 hx).1;constructor
 ·intro h
  rw[Ziu]
  ·omega
  ·intro y hy e
   obtain⟨j,hj,rfl⟩:=List.mem_iff_getElem.1 hy;rw[Ycc]at hj;rcases Zc1 L x with⟨h1,h2⟩|⟨i,h1,_,h3⟩
   ·omega
   ·obtain rfl:i=k:=by omega
    rw[List.getElem_take]at e;exact h3 j _ (by omega) (Yax (by omega)) e
 ·intro h
  refine Zio hx λj y hj hy e=>?_;rcases Zc1 (L.take k) x with⟨_,h2⟩|⟨i,h1,_⟩
  ·exact h2 y (Ybz (i:=j) (by rw[Yci,Yag hj];exact hy)) e
  ·omega
theorem Znr {L:List Nm} {k:Nat} {x:Nm} (hx:L[k]?=some x):Zoh L k=(decide (0<x.length)&&(decide (x.length<=16)&&decide (Zbb (L.take k) x<0))):=by
 unfold Zoh;rw[Yaw,hx];simp only[Ybw];congr 2;exact decide_eq_decide.2 (Zqc hx)
theorem Zlz {α:Type} {L:List α} {k:Nat} {x:α} (hx:L[k]?=some x):L.take (k+1)=L.take k++[x]:=by
 rw[Ya5,hx];rfl
theorem Zrx {L:List Nm} (h:∀ k,k<L.length->Zoh L k=true):∀ x∈L,1<=x.length/\x.length<=16:=λx hx=>by
 obtain⟨k,hk,rfl⟩:=List.mem_iff_getElem.1 hx;have:=h k hk
 rw[Znr (Yax hk)]at this;simp only[Yal,decide_eq_true_eq]at this;exact⟨this.1,this.2.1⟩
theorem Qaa {V:Voc} (h:∀ k,k<V.tok.length->Zoh V.tok k=true) {k:Nat} {m:Mg} (hm:V.mer[k]?=some m):Zow V k=mayM ⟨V.tok,V.mer.take k⟩ m:=by
 rw[Bool.eq_iff_iff,Zcu hm];unfold mayM Zhh;simp only[Yal,decide_eq_true_eq,Bool.not_eq_true'];have e:Zd6 ⟨V.tok,V.mer.take k⟩ m.a m.b=V.tok.getD m.a.toNat []++V.tok.getD m.b.toNat []:=rfl;rw[e];constructor
 ·rintro⟨⟨h1,h2,h3,h4,h5,h6⟩,h7,h8⟩
  have ht:V.tok[m.t.toNat]?=some (V.tok.getD m.a.toNat []++V.tok.getD m.b.toNat []):=by
   rw[<- h8,Yaw,Yax (by omega)];rfl
  have hk:=h m.t.toNat (by omega);rw[Znr ht]at hk;simp only[Yal,decide_eq_true_eq]at hk;have hf:=(Zqc ht).2 hk.2.2;exact⟨⟨⟨h1,h2⟩,⟨h3,h4⟩,h7⟩,by omega,by omega⟩
 ·rintro⟨⟨⟨h1,h2⟩,⟨h3,h4⟩,h7⟩,h8,h9⟩
  rcases Zc1 V.tok (V.tok.getD m.a.toNat []++V.tok.getD m.b.toNat [])with⟨hn,_⟩|⟨i,hi,hx,_⟩
  ·omega
  ·have hl:=(Ybb.1 hx).1
   refine⟨⟨h1,h2,h3,h4,by omega,by omega⟩,h7,?_⟩;have:m.t.toNat=i:=by omega
   rw[this,Yaw,hx];rfl
theorem Zvc (w:World) (A B:Option Addr) (n m ca cb:Nat) (V:Voc) (hV:VocSee w A B n m ca cb V):
  Calls Tryz.prog 38 #[vocV A B n m ca cb] w λe w'=>e=.returned (.int .i64 (Zqh V))/\Below w.heap.size w w':=by
 obtain⟨R,hR⟩:=Ze (Zqh V);rw[<- hR];unfold Zqh at hR;have HV:=Zh hV;have hn:=hV.tok.len;have hm:=hV.mer.len;have hn63:n<=9223372036854775807:=hV.tok.fit;have hm63:m<=9223372036854775807:=hV.mer.fit;rw[hn,hm]at hR;have HN:=Zh hn;have HM:=Zh hm;clear hV hn hm;unfold vocV;by_cases hbig:512<n\/512<m
 ·rw[Yag hbig]at hR
  have HR:=Zh hR;clear hR;by_cases h1:512<n
  ·have d1:decide ((512:Int)<(n:Int))=true:=by simp;omega
   go_enter Tryz.func38,Tryz.ntmps38;go_wp2;go_ret;exact⟨by rw[HR.out];rfl,(Ybm _ w).alloc (Yar _) _⟩
  ·have d1:decide ((512:Int)<(n:Int))=false:=by simp;omega
   have d2:decide ((512:Int)<(m:Int))=true:=by simp;omega
   go_enter Tryz.func38,Tryz.ntmps38;go_wp2;go_ret;exact⟨by rw[HR.out];rfl,(Ybm _ w).alloc (Yar _) _⟩
 ·rw[Yaf hbig]at hR
  have HR:=Zh hR;clear hR;have hn512:n<=512:=by omega
  have hm512:m<=512:=by omega
  have d1:decide ((512:Int)<(n:Int))=false:=by simp;omega
  have d2:decide ((512:Int)<(m:Int))=false:=by simp;omega
  have b1:Below w.heap.size w (w.alloc (.cells #[.slice A n ca,.slice B m cb] 30)):=(Ybm _ w).alloc (Yar _) _;obtain⟨W1,hW1⟩:=Ze (w.alloc (.cells #[.slice A n ca,.slice B m cb] 30));have hv0:Blk W1 w.heap.size 30 #[.slice A n ca,.slice B m cb]:=by rw[hW1];exact Blk.new _ _ _
  rw[<- hW1]at b1;have hs1:W1.heap.size=w.heap.size+1:=by rw[hW1];simp
  have y0:=hv0.cell 0;have y1:=hv0.cell 1;simp only[lz0,lz1,lz2]at y0 y1;have HW:=Zh hW1;have HB1:=Zh b1;have HV0:=Zh hv0;have HS1:=Zh hs1;clear hW1 b1 hv0 hs1 hbig;go_enter Tryz.func38,Tryz.ntmps38;go_wp2_with fail;rw[<- HW.out];refine(Zlu W1).mono ?_;rintro e w2 ⟨b,rfl,hg2,hb2⟩;have HG2:=Zh hg2;have HB2:=Zh hb2;have hv2:=HV0.out.below hb2 HV0.out.lt;have y0':=hv2.cell 0;simp only[lz0,lz1,lz2]at y0';clear hg2 hb2 y0 y1 hv2;unfold at0;go_wp2_with fail;go_loopw [22] (λi wr=>∃ (k:Nat) (F:Nat->Prop),k<=n/\i=.int .i64 k/\Grow wr F b ⟨V.tok.take k,[]⟩/\(∀ i,F i->W1.heap.size<=i)/\Below W1.heap.size W1 wr/\∀ c,c<k->Zoh V.tok c=true) (λi _=>n-(intOf i).toNat);case atStart=>exact⟨0,_,by omega,rfl,HG2.out,λi hi=>hi.1,HB2.out,λc h=>by omega⟩
  case round=>
   clear y0';obtain⟨k,F,hk,rfl,hG,hF,hB,hok⟩:=hrel;have HG:=Zh hG;have HF:=Zh hF;have HB:=Zh hB;have HOK:=Zh hok;have HBW:=Zh (Zaa HB1.out hB HB1.out.size);clear hG hF hB hok;rcases Yab k n with hlt|hge
   ·have hlt':(k:Int)<(n:Int):=by omega
    obtain⟨x,hx⟩:∃ x,V.tok[k]?=some x:=⟨_,Yax (by rw[HN.out];exact hlt)⟩
    obtain⟨ad,A',c',rfl,ec,hc',hA⟩:=HV.out.tok.at_ k x hx;have ec':=(HBW.out.cell (Ycb w _ ec)).trans ec;have htk:=Znr hx;have HTS:=Zh (Zlz hx);have hA':=hA.below HBW.out;have hap:∀ ad,A'=some ad->0<x.length->¬ F ad.block:=λad e h0 hf=>by
     have h1:=hA.2.2 ad e h0;have h2:=HF.out _ hf;have h3:=HS1.out;omega
    have hx16:V.tok.length=n:=HN.out;have HA:=Zh hA';have HAP:=Zh hap;have HC:=Zh hc';clear hA hA' hap ec hx hc' hx16;cases hr:(decide (0<x.length)&&(decide (x.length<=16)&&decide (Zbb (V.tok.take k) x<0)))with
    | false=>
     rw[hr]at htk;have HRR:=Zh hr;have hfin:R=52:=by
      rw[HR.out,Yag];rw[Zel hlt htk];simp
     have HFIN:=Zh hfin;clear hr htk hfin;go_wp2_with fail;refine(Zn8 _ F b ⟨V.tok.take k,[]⟩ HG.out A' x.length c' x HA.out HRR.out).mono ?_;rintro e w3 ⟨rfl,hb3⟩;have HB3:=Zh (Zaa HBW.out hb3 HBW.out.size);clear hb3 ec';go_wp2;go_ret;exact⟨by rw[HFIN.out];rfl,HB3.out⟩
    | true=>
     rw[hr]at htk;have HRR:=Zh hr;have HTK:=Zh htk;have hnew:Zbb (V.tok.take k) x<0:=by simp only[Yal,decide_eq_true_eq]at hr;exact hr.2.2
     have HNEW:=Zh hnew;clear hr htk hnew;go_wp2_with fail;refine(Zn8 _ F b ⟨V.tok.take k,[]⟩ HG.out A' x.length c' x HA.out HRR.out).mono ?_;rintro e w3 ⟨rfl,hb3⟩;have HG3:=Zh (HG.out.kept hb3);have HB3:=Zh (Zaa HB.out hb3 HB.out.size);have HTI:=Zh (⟨A',c',rfl,HC.out,HA.out.below hb3,HAP.out⟩:TokIn w3 F (.slice A' x.length c') x);clear hb3 ec';go_wp2_with fail;refine(Zou w3 F b ⟨V.tok.take k,[]⟩ HG3.out A' x.length c' x HTI.out HNEW.out (by show(V.tok.take k).length<_;rw[Ycc];omega)).mono ?_;rintro e w4 ⟨rfl,hg4,hk4⟩;have HG4:=Zh hg4;have HB4:=Zh (HB3.out.trans (hk4.toBelow HB3.out.size HF.out));clear hg4 hk4;go_wp2;go_roundw;case rel=>
      refine⟨k+1,_,by omega,by go_num,by rw[HTS.out];exact HG4.out,λi hi=>?_,HB4.out,λc hc=>?_⟩
      ·rcases hi with hi|hi
       ·exact HF.out i hi
       ·have:=HB3.out.size
        omega
      ·rcases Yab c k with h|h
       ·exact HOK.out c h
       ·obtain rfl:c=k:=by omega
        exact HTK.out
     case measure=>simp[intOf];omega
   ·obtain rfl:k=n:=by omega
    have hkz:¬ ((k:Int)<(k:Int)):=by omega
    have hall:(List.range k).all (Zoh V.tok)=true:=Zce HOK.out;have htl:V.tok.take k=V.tok:=Yav (by rw[HN.out];exact Yar _);have HG':=Zh (htl ▸ HG.out);have HTOK:=Zh (λc (hc:c<V.tok.length)=>HOK.out c (by rw[<- HN.out];exact hc));have hres:R=if ¬ (List.range 256).all (λc=>decide (0<=Zbb V.tok [UInt8.ofNat c]))=true then 51 else if ¬ (List.range m).all (Zow V)=true then 53 else 0:=by
     rw[HR.out,Yaf (by rw[hall];simp)]
    have HRES:=Zh hres;clear hall htl hres HG;go_wp2_with fail;refine(Zlt wr F b ⟨V.tok,[]⟩ HG'.out).mono ?_;rintro e w3 ⟨rfl,hb3⟩;have HG3:=Zh (HG'.out.kept hb3);have HB3:=Zh (Zaa HB.out hb3 HB.out.size);have HBW3:=Zh (Zaa HBW.out hb3 HBW.out.size);have hv3:=HV0.out.below HB3.out (by have:=HS1.out;omega);have y1:=hv3.cell 1;simp only[lz0,lz1,lz2]at y1;clear hb3 hv3;cases hsg:(List.range 256).all (λc=>decide (0<=Zbb V.tok [UInt8.ofNat c]))with
    | false=>
     have hfin:R=51:=by rw[HRES.out,Yag (by rw[hsg];simp)]
     have HFIN:=Zh hfin;clear hfin;go_wp2;go_ret;exact⟨by rw[HFIN.out];rfl,HBW3.out⟩
    | true=>
     have hres:R=if ¬ (List.range m).all (Zow V)=true then 53 else 0:=by rw[HRES.out,Yaf (by rw[hsg];simp)]
     have HRES2:=Zh hres;clear hres;go_wp2_with fail;go_loopw [40] (λi wr=>∃ (k:Nat) (F:Nat->Prop),k<=m/\i=.int .i64 k/\Grow wr F b ⟨V.tok,V.mer.take k⟩/\(∀ i,F i->W1.heap.size<=i)/\Below W1.heap.size W1 wr/\∀ c,c<k->Zow V c=true) (λi _=>m-(intOf i).toNat);case atStart=>exact⟨0,F,by omega,rfl,HG3.out,HF.out,HB3.out,λc h=>by omega⟩
     case round=>
      clear HB HF HG3 HB3 HBW HBW3 HG' y1;obtain⟨i,F,hi,rfl,hG,hF,hB,hok⟩:=hrel;have HG:=Zh hG;have HF:=Zh hF;have HB:=Zh hB;have HOK3:=Zh hok;have HBW:=Zh (Zaa HB1.out hB HB1.out.size);clear hG hF hB hok;rcases Yab i m with hlt|hge
      ·have hlt':(i:Int)<(m:Int):=by omega
       obtain⟨mg,hmg⟩:∃ mg,V.mer[i]?=some mg:=⟨_,Yax (by rw[HM.out];exact hlt)⟩
       obtain⟨pb,rfl,ea,eb,et⟩:=(HV.out.mer.below HBW.out).at_ i mg hmg;have hfit:Zjn mg:=HV.out.mer.bound mg (Ybz hmg);have hmo:=Qaa HTOK.out hmg;have HTS:=Zh (Zlz hmg);have hb1:=HB.out.alloc HB.out.size (.cells #[.int .i64 mg.a,.int .i64 mg.b,.int .i64 mg.t] 88);have hg1:=HG.out.kept ((Ybm _ wr).alloc (Yar _) (.cells #[.int .i64 mg.a,.int .i64 mg.b,.int .i64 mg.t] 88));obtain⟨W4,hW4⟩:=Ze (wr.alloc (.cells #[.int .i64 mg.a,.int .i64 mg.b,.int .i64 mg.t] 88));have hp4:Blk W4 wr.heap.size 88 #[.int .i64 mg.a,.int .i64 mg.b,.int .i64 mg.t]:=by rw[hW4];exact Blk.new _ _ _
       rw[<- hW4]at hb1 hg1;have HW4:=Zh hW4;have HP4:=Zh hp4;have HB4:=Zh hb1;have HG4:=Zh hg1;have HMO:=Zh hmo;have HFT:=Zh hfit;have z0:=hp4.cell 0;have z1:=hp4.cell 1;have z2:=hp4.cell 2;simp only[lz0,lz1,lz2]at z0 z1 z2;have HSHT:=Zh (Zrx HTOK.out);clear hb1 hg1 hW4 hp4 hmo hfit hmg;go_wp2_with fail;(try rw[<- HW4.out]);obtain⟨r,hr⟩:∃ r,mayM ⟨V.tok,V.mer.take i⟩ mg=r:=⟨_,rfl⟩
       refine(Zol W4 F b ⟨V.tok,V.mer.take i⟩ HG4.out HSHT.out mg HFT.out).mono ?_;rintro e w5 ⟨rfl,hb5⟩;rw[hr]at HMO ⊢;have HB5:=Zh (Zaa HB4.out hb5 HB4.out.size);have HG5:=Zh (HG4.out.kept hb5);have hp5:=HP4.out.below hb5 HP4.out.lt;have x0:=hp5.cell 0;have x1:=hp5.cell 1;have x2:=hp5.cell 2;simp only[lz0,lz1,lz2]at x0 x1 x2;clear hb5 hr hp5 ea eb et z0 z1 z2;cases r with
       | false=>
        have hfin:R=53:=by
         rw[HRES2.out,Yag];rw[Zel hlt HMO.out];simp
        have HFIN:=Zh hfin;clear hfin;go_wp2;go_ret;exact⟨by rw[HFIN.out];rfl,Zaa HB1.out HB5.out HB1.out.size⟩
       | true=>
        go_wp2_with fail;refine(Zo2 w5 F b ⟨V.tok,V.mer.take i⟩ HG5.out mg HFT.out (by show(V.mer.take i).length<_;rw[Ycc];omega)).mono ?_;rintro e w6 ⟨rfl,hg6,hk6⟩;have HG6:=Zh hg6;have HB6:=Zh (HB5.out.trans (hk6.toBelow HB5.out.size HF.out));clear hg6 hk6 x0 x1 x2;go_wp2;go_roundw;case rel=>
         refine⟨i+1,_,by omega,by go_num,by rw[HTS.out];exact HG6.out,λc hc=>?_,HB6.out,λc hc=>?_⟩
         ·rcases hc with hc|hc
          ·exact HF.out c hc
          ·have:=HB5.out.size
           omega
         ·rcases Yab c i with h|h
          ·exact HOK3.out c h
          ·obtain rfl:c=i:=by omega
           exact HMO.out
        case measure=>simp[intOf];omega
      ·obtain rfl:i=m:=by omega
       have hiz:¬ ((i:Int)<(i:Int)):=by omega
       have hfin:R=0:=by rw[HRES2.out,Yaf (by rw[Zce HOK3.out];simp)]
       have HFIN:=Zh hfin;clear hfin;go_wp2;go_ret;exact⟨by rw[HFIN.out];rfl,HBW.out⟩
theorem Zpn (w:World) (A B C:Option Addr) (n m ca cb p cc:Nat) (V:Voc) (l:List Int) (hV:VocSee w A B n m ca cb V) (hl:IntsIn w C p l) (hF:Fits V.tok):
  Calls Tryz.prog 93 #[vocV A B n m ca cb,.slice C p cc] w λe w'=>∃ v,e=.returned (.tuple #[v,.int .i64 (decB V.tok l).2])/\w'.ownsRow w.heap.size 5 1 v (decB V.tok l).1.length ((decB V.tok l).1.map byteV)/\Below w.heap.size w w':=by
 obtain⟨i0,hi,hz0,hz1,hz2⟩:=info_parts Za9;obtain⟨L,hL⟩:=Ze V.tok;have ht:=hV.tok;rw[<- hL]at ht hF ⊢;clear hL hV;obtain⟨R,hR⟩:=Ze (decB L l);rw[<- hR];have HR:=Zh hR;have hn63:n<=9223372036854775807:=ht.fit;have hp63:p<=9223372036854775807:=hl.1;have HLA:=Zh ht.len;have HLL:=Zh hl.len;have HF:=Zh hF;clear hR hF;unfold vocV;have hb0:Below w.heap.size w (w.alloc (.cells #[.slice A n ca,.slice B m cb] 30)):=(Ybm _ w).alloc (Yar _) _;have hbl:Blk (w.alloc (.cells #[.slice A n ca,.slice B m cb] 30)) w.heap.size 30 #[.slice A n ca,.slice B m cb]:=Blk.new _ _ _;have HBL:=Zh hbl;have HA:=Zh (ht.below hb0);have HC:=Zh (hl.below hb0);have HBW:=Zh hb0;have hsz0:w.heap.size<=(w.alloc (.cells #[.slice A n ca,.slice B m cb] 30)).heap.size:=hb0.size;clear ht hl hb0 hbl;go_enter Tryz.func93,Tryz.ntmps93;go_wp2;obtain⟨W,hW⟩:=Ze (w.alloc (.cells #[.slice A n ca,.slice B m cb] 30));rw[<- hW]at HBL HA HC HBW hsz0 ⊢;clear hW;go_loopw [6,7] (λv i wr=>∃ k:Nat,k<=p/\i=.int .i64 k/\wr.ownsRow W.heap.size 5 1 v (Zcr L l k).length ((Zcr L l k).map byteV)/\Below W.heap.size W wr/\(∀ (j:Nat) (i:Int),j<k->l[j]?=some i->Zft L i)) (λ_ i _=>p-(intOf i).toNat);case atStart=>exact⟨0,by omega,rfl,⟨rfl,.inl ⟨rfl,rfl⟩⟩,Ybm _ _,λj i h=>by omega⟩
 case round=>
  obtain⟨k,hk,rfl,hO,hB,hok⟩:=hrel;have HO:=Zh hO;have HB:=Zh hB;have HOK:=Zh hok;have hsz:=hB.size;have HBT:Hid (Below w.heap.size w wr):=Zh (Zaa HBW.out hB hsz0);clear hO hB hok;obtain⟨Av,cv,hv⟩:=Zac HO.out;subst hv;rcases Yab k p with hlt|hge
  ·have hlt':(k:Int)<(p:Int):=by omega
   have p0:(0:Int)<=(k:Int):=by omega
   obtain⟨pc,i,rfl,hii,ei,hi1,hi2⟩:=(HC.out.below HB.out).at k hlt;have HI:=Zh hii;have hlen:l.length=p:=HLL.out;have e0:∀ q,(wr.drewN q).cell? ⟨w.heap.size,0,none⟩=some (.slice A n ca):=λ_=>(HBL.out.below HB.out HBL.out.lt).cell 0;have ei':∀ q,(wr.drewN q).cell? (pc.add k)=some (.int .i64 i):=λ_=>ei;clear hii hlen;by_cases hyes:0<=i/\i<(n:Int)
   ·obtain⟨I,rfl⟩:∃ I:Nat,i=I:=⟨i.toNat,by omega⟩
    have d1:decide ((I:Int)<0)=false:=Ybt (by omega);have q0:(0:Int)<=(I:Int):=hyes.1;have q1:(I:Int)<(n:Int):=hyes.2;have d3:decide (n<=I)=false:=Ybt (by omega);have d4:decide ((n:Int)<=(I:Int))=false:=Ybt (by omega);have HIN:Hid (Zft L (I:Int)):=Zh ⟨q0,by rw[HLA.out];exact q1⟩;clear hyes;obtain⟨x,hx⟩:∃ x,L[I]?=some x:=⟨_,Yax (by rw[HLA.out];omega)⟩
    obtain⟨pa,Ax,cx,rfl,ea,ecx,ex⟩:=(HA.out.below HB.out).at_ I x hx;have hxf:=HF.out.at hx;have HX:=Zh hx;have EX:=Zh ex;clear hx ex;have HSTEP:Hid (∀ (j:Nat) (i:Int),j<k+1->l[j]?=some i->Zft L i):=Zh λj i hj hji=>by
     rcases Yab j k with h|h
     ·exact HOK.out j i h hji
     ·obtain rfl:j=k:=by omega
      rw[HI.out]at hji;obtain rfl:=Ya9 hji;exact HIN.out
    by_cases hle:(Zcr L l k).length<=4096
    ·have d5:decide (((Zcr L l k).length:Int)<=4096)=true:=Yb0 (by omega)
     have HT:=Zh (Zx6 HI.out HX.out hle);go_wp2_with fail;go_quiet (fail);go_wp2_with fail;refine Qe3 ?_;intro X hX;have x0:X.cell? ⟨w.heap.size,0,none⟩=some (.slice (some pa) n ca):=by rw[hX];exact e0 0
     have x1:X.cell? (pc.add k)=some (.int .i64 I):=by rw[hX];exact ei
     have x2:X.cell? (pa.add I)=some (.slice Ax x.length cx):=by rw[hX];exact ea
     have HXO:Hid (X.ownsRow W.heap.size 5 1 (.slice Av (Zcr L l k).length cv) (Zcr L l k).length ((Zcr L l k).map byteV)):=Zh (by rw[hX];exact HO.out);have HXB:Hid (Below W.heap.size W X):=Zh (by rw[hX];exact Zaf HB.out _);have HXE:Hid (BytesIn X Ax x.length x):=Zh (by rw[hX];exact EX.out.drewN _);have hxs:=HXB.out.size;clear hX e0 ei' ei ea;go_region_law (refine Za1 _ rfl (.tmp 32) (.tmp 40) 24 rfl W.heap.size 5 i0 (.int .u8 0) 1 Tryz.underlying24 hi hz0 hz1 hz2 rfl (.slice Av (Zcr L l k).length cv) (Zcr L l k).length _ rfl (show World.ownsRow X.drew W.heap.size 5 1 _ _ _ from HXO.out) Ax x.length cx _ rfl HXE.out.drew.2.1 (Zbm x) (by unfold maxLen;omega) (by omega) (by simp;omega) ?_;intro v' w3 hown' hg2 hloc;obtain⟨A3,cp3,hv3⟩:=Zac hown';rw[hv3]at hown' ⊢;have HG2:=Zh hg2;have HO2:=Zh hown';clear hg2 hown' hloc hv3);all_goals
      go_wp2;have HB3:=Zh (HXB.out.drew.grown HG2.out hxs (λg hg=>(HXO.out.lt g hg).1));go_roundw;case rel=>
       refine⟨k+1,by omega,by go_num,?_,HB3.out,HSTEP.out⟩;rw[HT.out,Yaq,Ybe];exact HO2.out
      case measure=>simp[intOf];omega
    ·have d5:decide (((Zcr L l k).length:Int)<=4096)=false:=Ybt (by omega)
     have HT:=Zh (Qb8 hle);clear hle;go_wp2_with fail;go_quiet (fail);go_wp2;go_roundw;case rel=>
      refine⟨k+1,by omega,by go_num,?_,Zaf HB.out _,HSTEP.out⟩;rw[HT.out];exact HO.out
     case measure=>simp[intOf];omega
   ·have hfin:R=([],1):=by rw[HR.out];exact Qa8 HI.out (by unfold Zft;rw[HLA.out];exact hyes)
    have HFN:=Zh hfin;clear hfin;by_cases h0:i<0
    ·have d1:decide (i<0)=true:=Yb0 h0
     clear hyes;go_wp2_with fail;go_quiet (fail);go_wp2;go_ret2;refine⟨.slice none 0 0,by rw[HFN.out];rfl,by rw[HFN.out];exact⟨rfl,.inl ⟨rfl,rfl⟩⟩,Zaf HBT.out _⟩
    ·have d1:decide (i<0)=false:=Ybt h0
     have d4:decide ((n:Int)<=i)=true:=Yb0 (by omega);clear hyes;go_wp2_with fail;go_quiet (fail);go_wp2;go_ret2;refine⟨.slice none 0 0,by rw[HFN.out];rfl,by rw[HFN.out];exact⟨rfl,.inl ⟨rfl,rfl⟩⟩,Zaf HBT.out _⟩
  ·obtain rfl:k=p:=by omega
   have hlz:¬ ((k:Int)<(k:Int)):=by omega
   have hfin:=Qbx (L:=L) (l:=l) λj i h=>HOK.out j i (by have:=(Ybb.1 h).1;have:=HLL.out;omega) h;rw[<- HR.out,HLL.out]at hfin;by_cases hbig:4096<(Zcr L l k).length
   ·rw[Yag hbig]at hfin
    have HFN:=Zh hfin;have d5:decide ((4096:Int)<((Zcr L l k).length:Int))=true:=Yb0 (by omega);clear hfin;go_wp2;go_ret2;refine⟨.slice none 0 0,by rw[HFN.out];rfl,by rw[HFN.out];exact⟨rfl,.inl ⟨rfl,rfl⟩⟩,HBT.out⟩
   ·rw[Yaf hbig]at hfin
    have HFN:=Zh hfin;have d5:decide ((4096:Int)<((Zcr L l k).length:Int))=false:=Ybt (by omega);clear hfin;go_wp2;go_ret2;refine⟨_,by rw[HFN.out];rfl,?_,HBT.out⟩;rw[HFN.out];exact Go.Joins.ownsRow_le HO.out hsz0
end
end Go.Proofs.YthcjikpabpgpfaaGreat
