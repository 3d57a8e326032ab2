import Derived.Test.YthcjikpabpgpfaaGreatZp22
import Derived.Maps.OwnSet
import Derived.Test.YthcjikpabpgpfaaGreatZp16
import Derived.Deep.RegionHeld3
import Derived.Test.YthcjikpabpgpfaaGreatZp17
set_option linter.unusedSimpArgs false
set_option maxHeartbeats 16000000
set_option maxRecDepth 100000
namespace Go.Proofs.YthcjikpabpgpfaaGreat
open Go.RowKit Go.Maps Go.WideMaps
theorem Ztg:Keyed Tryz.prog 9:=string_keyed Tryz.underlying9
theorem Qe4 (w:World):(zeroValue 24).run Tryz.prog w=.ok (.slice none 0 0) w:=by kernel_rfl
theorem Qat {s:Nm} (hs:s.length<=maxLen):keyOf Tryz.prog 9 (.string ⟨s.toArray⟩)=some (.string s):=by
 have:=keyOf_string_mk Tryz.underlying9 (s:=⟨s.toArray⟩) (by simpa[ByteArray.size]using hs)
 simpa using this
structure SetD (D:DataW Unit) (l:List Nm):Prop where
 isMap:IsMap D
 has:∀ s:Nm,Maps.has D (.string s)=decide (s∈l)
theorem SetD.nil:SetD (.map []) []:=⟨isMap_empty,λ_=>rfl⟩
theorem SetD.put {D:DataW Unit} {l l':List Nm} (h:SetD D l) (x:Nm) (d:DataW Unit) (hl:∀ s,s∈l'↔s∈l\/s=x):SetD (D.put (.string x) d) l':=by
 refine⟨h.isMap.put _ _,λs=>?_⟩;by_cases e:s=x
 ·subst e
  rw[has_put_same h.isMap (show WideAt.IsKeyLit (.string s)from trivial),Yb0 ((hl s).2 (.inr rfl))]
 ·rw[has_put_other (λe2=>e (by injection e2)),h.has]
  have:s∈l'↔s∈l:=by rw[hl];exact⟨λh=>h.resolve_right e,.inl⟩
  simp[this]
def BytesV (w:World) (G:Nat->Prop) (v:Value) (s:Nm):Prop:=∃ A n c,v=.slice A n c/\BytesIn w A n s/\(n<=c/\n<=1000000)/\∀ ad,A=some ad->0<n->G ad.block
theorem BytesV.keep {w w':World} {G G':Nat->Prop} {v:Value} {s:Nm} (h:BytesV w G v s) (hk:∀ i,G i->w'.heap[i]?=w.heap[i]?) (hG:∀ i,G i->G' i) (hs:w.heap.size<=w'.heap.size):BytesV w' G' v s:=by
 obtain⟨A,n,c,h1,h2,h3,h4⟩:=h;exact⟨A,n,c,h1,⟨h2.1,h2.2.1.keep λad e h0=>hk _ (h4 ad e h0),λad e h0=>Ya7 (h2.2.2 ad e h0) hs⟩,h3,λad e h0=>hG _ (h4 ad e h0)⟩
structure KeysB (D:DataW Unit) (f:Int->Option Nm):Prop where
 isMap:IsMap D
 has:∀ t:Int,Maps.has D (.int .i64 t)=(f t).isSome
theorem KeysB.nil:KeysB (.map []) λ_=>none:=⟨isMap_empty,λ_=>rfl⟩
def bPut (f:Int->Option Nm) (t:Int) (s:Nm):Int->Option Nm:=λu=>if u=t then some s else f u
theorem KeysB.put {D:DataW Unit} {f:Int->Option Nm} (h:KeysB D f) (t:Int) (s:Nm):KeysB (D.put (.int .i64 t) (.lit (.bool true))) (bPut f t s):=by
 refine⟨h.isMap.put _ _,λu=>?_⟩;by_cases e:u=t
 ·subst e
  rw[has_put_same h.isMap (show WideAt.IsKeyLit (.int .i64 u)from trivial)];simp[bPut]
 ·rw[has_put_other (λe2=>e (Zqt e2)),h.has]
  simp only[bPut,Yaf e]
def EntB (w:World) (f:Int->Option Nm) (G:Nat->Prop) (x:MapEntry):Prop:=∃ t s,x.key=.int .i64 t/\f t=some s/\BytesV w G x.val s
structure BMap (w:World) (mb n:Nat) (f:Int->Option Nm) (G:Nat->Prop):Prop where
 own:∃ D,w.ownsMap Tryz.prog 3 Zhg mb n D/\KeysB D f
 ent:∀ es clock,w.heap[mb]?=some (.map es clock)->∀ x∈es.toList,EntB w f G x
theorem BMap.lt {w:World} {mb n:Nat} {f:Int->Option Nm} {G:Nat->Prop} (h:BMap w mb n f G):mb<w.heap.size:=by
 obtain⟨D,h1,_⟩:=h.own;exact h1.lt
theorem BMap.made (w:World) (G:Nat->Prop):BMap (w.alloc (.map #[] 0)) w.heap.size 0 (λ_=>none) G where
 own:=⟨_,World.ownsMap_made w _ _ _,KeysB.nil⟩
 ent:=λes clock h=>by
  have h1:(w.alloc (.map #[] 0)).heap[w.heap.size]?=some (.map #[] 0):=Ybl w _;rw[h1]at h;obtain⟨rfl,-⟩:#[]=es/\0=clock:=by simpa using h
  simp
theorem BMap.keep {w w':World} {mb n:Nat} {f:Int->Option Nm} {G G':Nat->Prop} (h:BMap w mb n f G) (hb:w'.heap[mb]?=w.heap[mb]?) (hk:∀ i,G i->w'.heap[i]?=w.heap[i]?) (hG:∀ i,G i->G' i) (hs:w.heap.size<=w'.heap.size):BMap w' mb n f G' where
 own:=by
  obtain⟨D,h1,h2⟩:=h.own;exact⟨D,Zap h1 hb,h2⟩
 ent:=λes clock e x hx=>by
  obtain⟨t,s,q1,q2,q3⟩:=h.ent es clock (by rw[<- hb];exact e) x hx;exact⟨t,s,q1,q2,q3.keep hk hG hs⟩
theorem BMap.put {w:World} {mb n:Nat} {f:Int->Option Nm} {G:Nat->Prop} (h:BMap w mb n f G) (hG:∀ i,G i->i≠mb) (hn:n<maxLen) {t:Int} (ht:Zaj t) {v:Value} {s:Nm} (hv:BytesV w G v s):
  ∃ w2,(Instr.mapUpdate 108 (.map (some mb)) (.int .i64 t) v).run Tryz.prog w=.ok () w2/\BMap w2 mb (n+1) (bPut f t s) G/\w.grownBy w2 (some mb):=by
 obtain⟨D,hM,hD⟩:=h.own;have hM':=hM;obtain⟨es,clock,hb,F,hs,rfl⟩:=hM;obtain⟨w2,hrun2,r1,r2⟩:=hM'.update Zgh Tryz.underlying108 hn (val:=v) (Zmb ht) (show Zhg v=some (.lit (.bool true),[])from rfl);obtain⟨es',clock',hb2,hwho⟩:=stored_who Zgh Tryz.underlying108 hb F (Nat.lt_of_le_of_lt hs hn) (Zmb ht) hrun2;have hsz2:=r2.size;have hkeep:∀ i,G i->i<w.heap.size->w2.heap[i]?=w.heap[i]?:=λi hi hlt=>r2.block i hlt (λe=>by cases e;exact hG mb hi rfl);have hup:∀ {z:Value} {y:Nm},BytesV w G z y->BytesV w2 G z y:=λhz=>by
  obtain⟨A,m,c,h1,h2,h3,h4⟩:=hz;exact⟨A,m,c,h1,⟨h2.1,h2.2.1.keep λad e h0=>hkeep _ (h4 ad e h0) (h2.2.2 ad e h0),λad e h0=>Ya7 (h2.2.2 ad e h0) hsz2⟩,h3,h4⟩
 refine⟨w2,hrun2,⟨⟨_,r1,hD.put t s⟩,λes2 clock2 hb3 x hx=>?_⟩,r2⟩;obtain⟨rfl,rfl⟩:es'=es2/\clock'=clock2:=by rw[hb2]at hb3;simpa using hb3
 rcases hwho x hx with⟨h1,h2⟩|⟨h1,h2⟩
 ·obtain⟨u,y,q1,q2,q3⟩:=h.ent es clock hb x h1
  have hu:u≠t:=λe=>h2 (by rw[q1,e]);exact⟨u,y,q1,by unfold bPut;rw[Yaf hu];exact q2,hup q3⟩
 ·exact⟨t,s,h1,by unfold bPut;rw[Yag rfl],by rw[h2];exact hup hv⟩
theorem BMap.look {w:World} {mb n:Nat} {f:Int->Option Nm} {G:Nat->Prop} (h:BMap w mb n f G) {t:Int} (ht:Zaj t):
  ∃ v,(Instr.lookup 108 (.map (some mb)) (.int .i64 t) true).run Tryz.prog w=.ok (.tuple #[v,.bool (f t).isSome]) w/\∀ s,f t=some s->BytesV w G v s:=by
 obtain⟨D,hM,hD⟩:=h.own;obtain⟨es,clock,hb,F,hs,rfl⟩:=hM;have h2:=hD.has t;rcases Maps.fit_look true Zgh Tryz.underlying108 (Qe4 _) hb F (Zmb ht)with⟨hrun,_,hat⟩|⟨e0,y,hm0,hk0,hrun,hR,hat,_⟩
 ·rw[Maps.has_false_of_atKey hat]at h2
  refine⟨.slice none 0 0,by rw[<- h2];exact hrun,λs hs=>?_⟩;rw[hs]at h2;cases h2
 ·rw[Maps.has_true_of_atKey hat]at h2
  obtain⟨u,s,q1,q2,q3⟩:=h.ent es clock hb e0 hm0;have hu:u=t:=by rw[hk0]at q1;exact(Zzt q1).symm
  subst hu;refine⟨e0.val,by rw[<- h2];exact hrun,λs' hs'=>?_⟩;rw[q2]at hs';cases hs'
  exact q3
theorem BMap.keys {w:World} {mb n:Nat} {f:Int->Option Nm} {D:DataW Unit} (hM:w.ownsMap Tryz.prog 3 Zhg mb n D) (hD:KeysB D f) {K:List Int} (hK:K.Pairwise (·<·)) (hm:∀ t,t∈K↔(f t).isSome=true) {ss:List Int} (hP:ss.Perm (intKeys D)):ss.mergeSort leI=K:=by
 have hc:CollectedI D (λ_=>false) K:=by
  refine⟨hK.imp λ{a b} h=>by omega,λx=>?_⟩;rw[hD.has,hm];simp
 have hp2:=hc.perm hM Zgh Tryz.underlying3 (λ_=>rfl);rw[mergeSort_of_perm_i hP,<- mergeSort_of_perm_i hp2];exact List.mergeSort_of_pairwise (hK.imp λ{a b} h=>by simp;omega)
def SegF (f:Int->Option Nm) (T:List (Int×List Pst)):Prop:=∀ t,(f t).map (λs=>(getP s).1)=Zey T t/\∀ s,f t=some s->(getP s).2=0
theorem SegF.nil:SegF (λ_=>none) []:=λt=>⟨rfl,λs h=>by cases h⟩
theorem Zys {T:List (Int×List Pst)} {t:Int} (h:∀ x∈T,x.1≠t):Zey T t=none:=by
 unfold Zey;rw[List.find?_eq_none.2 (λx hx=>by simpa using h x hx)];rfl
theorem Zre {T:List (Int×List Pst)} {t:Int}:(Zey T t).isSome=true↔t∈T.map Prod.fst:=by
 unfold Zey;rw[Option.isSome_map,List.find?_isSome,Yaz];constructor
 ·rintro⟨x,h1,h2⟩;exact⟨x,h1,by simpa using h2⟩
 ·rintro⟨x,h1,h2⟩;exact⟨x,h1,by simpa using h2⟩
theorem SegF.put {f:Int->Option Nm} {T:List (Int×List Pst)} (h:SegF f T) {t:Int} {s:Nm} (hT:∀ x∈T,x.1≠t) (hs:(getP s).2=0):SegF (bPut f t s) (T++[(t,(getP s).1)]):=by
 intro u;obtain⟨h1,h2⟩:=h u;unfold bPut;by_cases e:u=t
 ·subst e
  rw[Yag rfl];have h3:=Zys hT;unfold Zey at h3 ⊢;rw[List.find?_append];rw[Option.map_eq_none_iff]at h3;rw[h3];exact⟨by simp,λs' hs'=>by cases hs';exact hs⟩
 ·rw[Yaf e]
  refine⟨?_,h2⟩;rw[h1];unfold Zey;rw[List.find?_append];have:([(t,(getP s).1)]:List (Int×List Pst)).find? (λx=>x.1==u)=none:=by simp;exact λe2=>e e2.symm
  rw[this,Option.or_none]
theorem SegF.isSome {f:Int->Option Nm} {T:List (Int×List Pst)} (h:SegF f T) (t:Int):(f t).isSome=true↔t∈T.map Prod.fst:=by
 rw[<- Zre,<- (h t).1,Option.isSome_map]
theorem Zb7 (w:World) (n:Nat) (hn:n<18446744073709551616/2):
  Calls Tryz.prog 35 #[.int .i64 n] w λe w'=>∃ v,e=.returned v/\w'.ownsRow w.heap.size 5 1 v (putL n).length ((putL n).map byteV)/\Below w.heap.size w w':=by
 have hwz:IntKind.u64.wrap (n:Int)=(n:Int):=by rw[Yby];omega
 go_enter Tryz.func35,Tryz.ntmps35;go_wp2_with fail;refine(Zff w n (by omega)).mono ?_;rintro e w1 ⟨v,rfl,ho,hb⟩;have HO:=Zh ho;have HB:=Zh hb;clear ho hb;go_wp2;go_ret;exact⟨v,rfl,HO.out,HB.out⟩
theorem Zhr (w:World) (A:Option Addr) (n c:Nat) (l:List (Nm×Nm)) (h:DocsIn w A n l):
  Calls Tryz.prog 29 #[.slice A n c] w λe w'=>e=.returned (.bool (decide (Zb1 l)))/\Below w.heap.size w w':=by
 have HL:=Zh h;have hlen:=h.len;have hn63:=h.fit;unfold maxLen at hn63;obtain⟨r,hr⟩:=Ze (decide (Zb1 l));rw[<- hr];have HR:=Zh hr;have HLEN:=Zh hlen;clear h hr hlen;go_enter Tryz.func29,Tryz.ntmps29;by_cases h64:64<n
 ·have d1:decide ((64:Int)<(n:Int))=true:=by simp;omega
  have HF:Hid (false=r):=Zh (by rw[HR.out];exact(Ybt (λe=>by have:=e.1;have:=HLEN.out;omega)).symm);go_wp2;go_ret;exact⟨congrArg (λb=>Ending.returned (.bool b)) HF.out,Ybm _ _⟩
 have d1:decide ((64:Int)<(n:Int))=false:=by simp;omega
 have hmm:=@run_makeMap Tryz.prog;go_wp2;clear hmm;obtain⟨W,hW⟩:=Ze (w.alloc (.map #[] 0));have hm0:W.ownsMap Tryz.prog 9 (unitElem (H:=Unit)) w.heap.size 0 (.map []):=by rw[hW];exact World.ownsMap_made w _ _ _
 have hb0:Below w.heap.size w W:=by rw[hW];exact(Ybm _ w).alloc (Yar _) _
 rw[<- hW];have HM0:=Zh hm0;have HB0:=Zh hb0;clear hm0 hb0 hW;go_loopw [12] (λi wr=>∃ (k:Nat) (D:DataW Unit),k<=n/\i=.int .i64 k/\wr.ownsMap Tryz.prog 9 (unitElem (H:=Unit)) w.heap.size k D/\SetD D (Zcm l k)/\Maps.size D=(Zcm l k).length/\(∀ p∈l.take k,Zf8 p)/\Below w.heap.size w wr) (λi _=>n-(intOf i).toNat);case atStart=>exact⟨0,_,by omega,rfl,HM0.out,SetD.nil,rfl,by simp,HB0.out⟩
 case round=>
  obtain⟨k,D,hk,rfl,hm,hs,hz,ho,hb⟩:=hrel;have HM:=Zh hm;have HS:=Zh hs;have HZ:=Zh hz;have HO:=Zh ho;have HB:=Zh hb;have hsz:=hb.size;clear hm hs hz ho hb;rcases Yab k n with hlt|hge
  ·have d2:decide ((k:Int)<(n:Int))=true:=by simpa using hlt
   have p0:(0:Int)<=(k:Int):=by omega
   have p1:(k:Int)<(n:Int):=by omega
   obtain⟨pa,p,rfl,hp,a0,a1,v1,v2⟩:=(HL.out.below HB.out).at k hlt;obtain⟨pk,pt⟩:=p;simp only at a0 a1 v1 v2;obtain⟨N1,hN1⟩:=Ze pk.length;obtain⟨N2,hN2⟩:=Ze pt.length;have z1:(⟨pk.toArray⟩:ByteArray).size=N1:=by rw[Zcb,hN1]
   have z2:(⟨pt.toArray⟩:ByteArray).size=N2:=by rw[Zcb,hN2]
   have HP:=Zh hp;have HN1:=Zh hN1;have HN2:=Zh hN2;have HV1:=Zh v1;obtain⟨W1,hW1⟩:=Ze (wr.alloc (.cells #[.string ⟨pk.toArray⟩,.string ⟨pt.toArray⟩] 49));have hbl:Blk W1 wr.heap.size 49 #[.string ⟨pk.toArray⟩,.string ⟨pt.toArray⟩]:=by rw[hW1];exact Blk.new _ _ _
   have hb1:Below wr.heap.size wr W1:=by rw[hW1];exact(Ybm _ wr).alloc (Yar _) _
   obtain⟨g,hg⟩:=Ze wr.heap.size;have HW1:=Zh hW1;have HG:=Zh hg;have HB1:=Zh (Zaa HB.out hb1 hsz);have HBL:=Zh hbl;have HM1:=Zh (show W1.ownsMap Tryz.prog 9 (unitElem (H:=Unit)) w.heap.size k D from by rw[hW1];exact HM.out.alloc _);have hBAD:¬ Zf8 (pk,pt)->false=r:=λhb=>by rw[HR.out];exact(Ybt (Zh0 HP.out hb)).symm
   have HBAD:=Zh hBAD;have hin:k<n:=hlt;clear hp hN1 hN2 v1 v2 hW1 hbl hb1 hg hBAD;have hno:∀ u,Below w.heap.size w u->¬ Zf8 (pk,pt)->Ending.returned (.bool false)=.returned (.bool r)/\Below w.heap.size w u:=λu hu hb=>⟨congrArg (λb=>Ending.returned (.bool b)) (HBAD.out hb),hu⟩
   have HNO:=Zh hno;have hB1:=HB1.out;rw[HW1.out]at hB1;have HB2:=Zh hB1;clear hno hB1 hin;by_cases q1:N1=0
   ·have e1:((N1:Int)==0)=true:=by simp;omega
    have HX:=Zh (HNO.out _ HB2.out (λh=>by have h1:=h.1;simp only at h1;have:=HN1.out;omega));clear q1;go_wp2;go_ret;exact HX.out
   have e1:((N1:Int)==0)=false:=by simp;omega
   by_cases q2:32<N1
   ·have e2:decide ((32:Int)<(N1:Int))=true:=by simp;omega
    have HX:=Zh (HNO.out _ HB2.out (λh=>by have h1:=h.2.1;simp only at h1;have:=HN1.out;omega));clear q1 q2;go_wp2;go_ret;exact HX.out
   have e2:decide ((32:Int)<(N1:Int))=false:=by simp;omega
   by_cases q3:4096<N2
   ·have e3:decide ((4096:Int)<(N2:Int))=true:=by simp;omega
    have HX:=Zh (HNO.out _ HB2.out (λh=>by have h1:=h.2.2;simp only at h1;have:=HN2.out;omega));clear q1 q2 q3;go_wp2;go_ret;exact HX.out
   have e3:decide ((4096:Int)<(N2:Int))=false:=by simp;omega
   have HOK:Hid (Zf8 (pk,pt)):=Zh (by refine⟨?_,?_,?_⟩<;>simp only<;>have:=HN1.out<;>have:=HN2.out<;>omega);obtain⟨W2,hrun,hM2,hg2⟩:=HM1.out.update Ztg Tryz.underlying149 (show k<maxLen by unfold maxLen;omega) (val:=.agg #[]) (Qat HV1.out) unitElem_mk;rw[HW1.out]at hrun;have HM2:=Zh hM2;have HG2:=Zh hg2;clear hM2 hg2 q1 q2 q3;go_wp2;have hkd:l.getD k ([],[])=(pk,pt):=by rw[Yaw,HP.out];rfl
   have hsn:=Zer l k;rw[hkd]at hsn;refine⟨⟨k+1,_,by omega,by go_num,HM2.out,HS.out.put pk _ (λs=>?_),?_,λp hp=>?_,HB1.out.grown HG2.out HB1.out.size (λg hg=>by cases hg;exact Yar _)⟩,by simp[intOf];omega⟩
   ·rw[hsn]
    split
    ·rename_i hin
     exact⟨.inl,λh=>h.elim id (λe=>e ▸ hin)⟩
    ·rw[Ybj,Ybi]
   ·rw[size_put (HM1.out.tidy Ztg),HS.out.has,HZ.out,hsn]
    by_cases hin:pk∈Zcm l k
    ·simp only[hin,decide_true,if_true]
    ·simp only[hin,decide_false,if_false,Yaq,Yae,Bool.false_eq_true]
   ·rw[Ya5,HP.out]at hp
    rcases Ybj.1 hp with h1|h1
    ·exact HO.out p h1
    ·simp at h1;rw[h1];exact HOK.out
  ·obtain rfl:k=n:=by omega
   have d2:decide ((k:Int)<(k:Int))=false:=by simp
   have hall:∀ p∈l,Zf8 p:=λp hp=>HO.out p (by rw[Yav (by rw[HLEN.out];exact Yar _)];exact hp);have hone:=Zvk (l:=l) (by rw[HLEN.out];omega) hall;rw[HLEN.out]at hone;have hlm:=HM.out.len Tryz.underlying149 3;rw[HZ.out]at hlm;obtain⟨K,hK⟩:=Ze ((Zcm l k).length);rw[<- hK]at hlm hone;have hfin:((K:Int)==(k:Int))=r:=by
    rw[HR.out,Bool.eq_iff_iff,decide_eq_true_iff,hone];simp only[beq_iff_eq];omega
   have HFIN:=Zh hfin;clear hall hone hK hfin;go_wp2;go_ret;exact⟨congrArg (λb=>Ending.returned (.bool b)) HFIN.out,HB.out⟩
structure IsQ (w:World) (q b:Nat) (g:Nat->Prop) (s:Rd) (bad:Bool):Prop where
 blk:Blk w q 189 #[.pointer (some ⟨b,0,none⟩),.bool bad]
 rd:IsR w b g s
 ne:q≠b
 far:¬ g q
theorem IsQ.read {w w':World} {q b:Nat} {g:Nat->Prop} {s s':Rd} {bad:Bool} (h:IsQ w q b g s bad) (hk:Kept (λi=>i=b) w w') (hr:IsR w' b g s'):IsQ w' q b g s' bad:=
 ⟨h.blk.kept hk h.ne,hr,h.ne,h.far⟩
theorem IsQ.later {w w':World} {q b:Nat} {g:Nat->Prop} {s:Rd} {bad:Bool} (h:IsQ w q b g s bad) (hb:Below w.heap.size w w'):IsQ w' q b g s bad:=
 have hl:b<w.heap.size:=by obtain⟨A,c,h1,_⟩:=h.rd.at_;exact h1.lt
 have hk:Kept (λi=>w.heap.size<=i) w w':=Kept.below hb
 ⟨h.blk.below hb h.blk.lt,h.rd.kept hk (by omega) (λi hi=>by have:=h.rd.lt i hi;omega),h.ne,h.far⟩
theorem Zlm (w:World) (A:Option Addr) (n c:Nat) (l:Nm) (hl:BytesIn w A n l) (hn:n<=1099511627776):
  Calls Tryz.prog 101 #[.slice A n c] w λe w'=>∃ q b g,e=.returned (.pointer (some ⟨q,0,none⟩))/\IsQ w' q b g ⟨l,0,0⟩ false/\w.heap.size<=q/\w.heap.size<=b/\Below w.heap.size w w':=by
 have HL:=Zh hl;clear hl;go_enter Tryz.func101,Tryz.ntmps101;go_wp2_with fail;refine(Zz0 w A n c l HL.out hn).mono ?_;rintro e w1 ⟨b,g,rfl,hb,hg,hr,hB⟩;have HR:=Zh hr;have HB:=Zh hB;have hbl:b<w1.heap.size:=by obtain⟨A,c,h1,_⟩:=hr.at_;exact h1.lt
 have HGL:=Zh hr.lt;unfold at0;clear hr hB;go_wp2;go_ret;obtain⟨W,hW⟩:=Ze (w1.alloc (.cells #[.pointer (some ⟨b,0,none⟩),.bool false] 189));have hk:Kept (λ_=>False) w1 W:=by rw[hW];exact(Kept.refl _ w1).alloc _
 rw[<- hW];refine⟨w1.heap.size,b,g,rfl,⟨by rw[hW];exact Blk.new _ _ _,HR.out.kept hk (λh=>h) (λ_ _ h=>h),by omega,λh=>by have:=HGL.out _ h;omega⟩,HB.out.size,hb,?_⟩;rw[hW];exact HB.out.alloc HB.out.size _
theorem Zi5 {w:World} {q b:Nat} {g:Nat->Prop} {s:Rd} {bad:Bool} (h:IsQ w q b g s bad) (r:Bool):
  Calls Tryz.prog 103 #[.pointer (some ⟨q,0,none⟩),.bool r] w λe w'=>e=.returned (.tuple #[])/\IsQ w' q b g s (bad||!r)/\Kept (λi=>i=q) w w':=by
 have H:=Zh h;have c1:=h.blk.cell 1;have z1:=h.blk.frozen 1;simp only[lz0,lz1,lz2]at c1;clear h;have HFIN:Hid (∀ v:Bool,v=(bad||!r)->IsQ (w.setCell ⟨q,1,none⟩ (.bool v)) q b g s (bad||!r)/\Kept (λi=>i=q) w (w.setCell ⟨q,1,none⟩ (.bool v))):=Zh (λv hv=>by
  have hk:Kept (λi=>i=q) w (w.setCell ⟨q,1,none⟩ (.bool v)):=(Kept.refl (λi=>i=q) w).setCell (.inl rfl) _;refine⟨⟨?_,H.out.rd.kept hk (λe=>H.out.ne e.symm) (λi hi e=>H.out.far (e ▸ hi)),H.out.ne,H.out.far⟩,hk⟩;rw[<- hv];simpa using H.out.blk.set_ 1 (.bool v))
 cases bad with
 | true=>
  go_enter Tryz.func103,Tryz.ntmps103;go_wp2;go_end0;exact⟨rfl,HFIN.out true rfl⟩
 | false=>
  cases r with
  | true=>
   go_enter Tryz.func103,Tryz.ntmps103;go_wp2;go_end0;exact⟨rfl,HFIN.out false rfl⟩
  | false=>
   go_enter Tryz.func103,Tryz.ntmps103;go_wp2;go_end0;exact⟨rfl,HFIN.out true rfl⟩
theorem Zf9 {w:World} {q b:Nat} {g:Nat->Prop} {s:Rd} {bad:Bool} (h:IsQ w q b g s bad):
  Calls Tryz.prog 104 #[.pointer (some ⟨q,0,none⟩)] w λe w'=>e=.returned (.bool (!bad&&decide (s.e=0/\Zbt s=0)))/\w'=w:=by
 have H:=Zh h;have c0:=h.blk.cell 0;have c1:=h.blk.cell 1;simp only[lz0,lz1,lz2]at c0 c1;have HE:=Zh (Qce w b g s h.rd);have HF:=Zh (Zo0 w b g s h.rd);obtain⟨E,hE⟩:=Ze s.e;obtain⟨L,hL⟩:=Ze (Zbt s);rw[<- hE]at HE;rw[<- hL]at HF;rw[<- hE,<- hL];unfold at0 at HE HF;clear h hE hL H;cases bad with
 | true=>
  go_enter Tryz.func104,Tryz.ntmps104;go_wp2;go_ret;exact⟨rfl,rfl⟩
 | false=>
  by_cases h0:E=0
  ·subst h0
   obtain⟨r,hr⟩:=Ze (decide (L=0));have HR:=Zh hr;have d1:(((L:Nat):Int)==0)=r:=by rw[hr];by_cases h:L=0<;>simp[h]
   clear hr;go_enter Tryz.func104,Tryz.ntmps104;go_wp2_with fail;refine HE.out.mono ?_;rintro e w1 ⟨rfl,rfl⟩;go_wp2_with fail;refine HF.out.mono ?_;rintro e w1 ⟨rfl,rfl⟩;go_wp2;go_ret;exact⟨by rw[HR.out];simp,rfl⟩
  ·have d0:(E==0)=false:=by simpa using h0
   have HN:=Zh h0;clear h0;go_enter Tryz.func104,Tryz.ntmps104;go_wp2_with fail;refine HE.out.mono ?_;rintro e w1 ⟨rfl,rfl⟩;go_wp2;go_ret;exact⟨by simp[HN.out],rfl⟩
def Zxh (w:World) (q b:Nat) (g:Nat->Prop) (r:List UInt8×Rd) (bad:Bool) (e:Ending) (w':World):Prop:=
 ∃ v,e=.returned v/\w'.ownsRow w.heap.size 5 1 v r.1.length (r.1.map byteV)/\IsQ w' q b g r.2 bad/\Kept (λi=>i=b) w w'
theorem Zmp {w:World} {q b:Nat} {g:Nat->Prop} {s:Rd} {bad:Bool} (h:IsQ w q b g s bad):
  Calls Tryz.prog 106 #[.pointer (some ⟨q,0,none⟩)] w (Zxh w q b g (Zbd s (Zbt s)) bad):=by
 have H:=Zh h;have c0:=h.blk.cell 0;simp only[lz0,lz1,lz2]at c0;obtain⟨L,hL⟩:=Ze (Zbt s);have hLm:L<=1099511627776:=by have h1:=h.rd.fit;have h2:=Zm2 s;omega
 obtain⟨r,hr⟩:=Ze (Zbd s (Zbt s));rw[<- hr];rw[<- hL]at hr;have HL:=Zh hL;have HFIN:Hid (∀ (u u':World) (v:Value),(∃ n,u=w.drewN n)->u'.ownsRow u.heap.size 5 1 v (Zbd s L).1.length ((Zbd s L).1.map byteV)->IsR u' b g (Zbd s L).2->Kept (λi=>i=b) u u'->Zxh w q b g r bad (.returned v) u'):=Zh (λu u' v hu ho hi hk=>by
  obtain⟨n,rfl⟩:=hu;rw[<- hr]at ho hi;have hk2:Kept (λi=>i=b) w u':=((Kept.refl (λi=>i=b) w).drewN n).trans hk (λ_ _ e=>e);exact⟨v,rfl,ho,H.out.read hk2 hi,hk2⟩)
 have HC:Hid (w.cell? ⟨q,0,none⟩=some (.pointer (some ⟨b,0,none⟩))):=Zh c0;clear h hL hr c0;go_enter Tryz.func106,Tryz.ntmps106;go_wp2_with fail;refine Yb8 (S:=λw'=>w'.cell? ⟨q,0,none⟩=some (.pointer (some ⟨b,0,none⟩))) (by kernel_rfl) HC.out (λhHeld=>?_);obtain⟨u0,hu0⟩:=Ze w.drew;rw[<- hu0]at hHeld ⊢;have HS0:u0.cell? ⟨q,0,none⟩=some (.pointer (some ⟨b,0,none⟩)):=by rw[hu0];exact HC.out
 have HU0:Hid (∃ n,u0=w.drewN n):=Zh ⟨1,hu0⟩;have HR0:Hid (IsR u0 b g s):=Zh (by rw[hu0];exact H.out.rd.kept (F:=λ_=>False) (Kept.refl _ w).drew (λh=>h) (λ_ _ h=>h));have HQ0:Hid (∀ u,Kept (λi=>i=b) u0 u->u.cell? ⟨q,0,none⟩=some (.pointer (some ⟨b,0,none⟩))):=Zh (λu hk=>by
  have h1:=(H.out.blk.kept (F:=λi=>i=b) ((Kept.refl (λi=>i=b) w).drew.trans (by rw[<- hu0];exact hk) (λ_ _ e=>e)) H.out.ne).cell 0;simpa using h1)
 clear hu0;refine tk 0 ?_;try simp only[Act.put,lz3,lz4,lz5]
 refine tk 4 ?_;try simp only[Act.put,lz3,lz4,lz5]
 refine tk 1 ?_;try simp only[Act.put,lz3,lz4,lz5]
 refine tk 5 ?_;try simp only[Act.put,lz3,lz4,lz5]
 refine tk 2 ?_;try simp only[Act.put,lz3,lz4,lz5]
 refine tk 6 ?_;try simp only[Act.put,lz3,lz4,lz5]
 refine tk 3 ?_;try simp only[Act.put,lz3,lz4,lz5]
 refine tk 7 ?_;try simp only[Act.put,lz3,lz4,lz5]
 refine rd1 8 ?sa9;case sa9=>
  intro K hK;go_simp;have HLF:=Zh (Zo0 u0 b g s HR0.out);rw[<- HL.out]at HLF;refine HLF.out.mono ?_;rintro e u1 ⟨rfl,rfl⟩;clear HLF;go_wp2_with fail;refine hK.out _ _ HS0 (λha10=>?_);clear hK K;try simp only[Act.put,lz3,lz4,lz5]
  refine rd1 9 ?sa11;case sa11=>
   intro K hK;go_simp;refine(Zmo u1 b g s HR0.out (L:Int) (by omega) (by omega)).mono ?_;rintro e u2 ⟨v,rfl,ho,hr,hk⟩;have HO:=Zh ho;have HR2:=Zh hr;have HK:=Zh hk;clear ho hr hk;go_wp2_with fail;refine hK.out _ _ (HQ0.out u2 HK.out) (λha12=>?_);clear hK K;(try simp only[Act.put,lz3,lz4,lz5]);refine tk 10 ?_;(try simp only[Act.put,lz3,lz4,lz5]);refine Yb9 (by kernel_rfl) ?_ _;go_wp2;go_ret;exact HFIN.out u1 u2 v HU0.out HO.out HR2.out HK.out
theorem Zr5 (w:World) (A:Option Addr) (n c:Nat) (x:Nm) (h:BytesIn w A n x) (hc:n<=c) (hn:n<=1099511627776) (docs:Int):
  Calls Tryz.prog 107 #[.slice A n c,.int .i64 docs] w λe w'=>e=.returned (.bool (decide ((getP x).2=0/\0<(getP x).1.length/\Zjv (getP x).1<docs)))/\Below w.heap.size w w':=by
 have HG:=Zh (Zti w A n c x h hc hn);obtain⟨r,hr⟩:=Ze (decide ((getP x).2=0/\0<(getP x).1.length/\Zjv (getP x).1<docs));rw[<- hr];have hpl:(getP x).1.length<=4096:=Zm6 _;obtain⟨P,E,hPE⟩:∃ P E,getP x=(P,E):=⟨_,_,rfl⟩
 rw[hPE]at hr HG hpl;simp only at hr hpl;have HR:=Zh hr;clear h hr hPE;go_enter Tryz.func107,Tryz.ntmps107;go_wp2_with fail;refine HG.out.mono ?_;rintro e w1 ⟨vp,rfl,hpo,hb⟩;obtain⟨Ap,cp,hvp⟩:∃ A c,vp=.slice A P.length c:=by
  obtain⟨R,h1,h2,h3⟩:=hpo;obtain⟨A,c,e⟩:=Zac h2;exact⟨A,c,e⟩
 subst hvp;have HSEE:=Zh (hpo.see rfl (by unfold maxLen;omega));have HB:=Zh hb;clear hpo hb HG;simp only;by_cases q1:E=0
 ·subst q1
  by_cases q2:P.length=0
  ·have d2:decide ((0:Int)<((P.length:Nat):Int))=false:=Ybt (by omega)
   have HF:Hid (false=r):=Zh (by rw[HR.out];exact(Ybt (λh=>by have:=h.2.1;omega)).symm);obtain⟨PL,hPL⟩:=Ze P.length;rw[<- hPL]at d2 ⊢;have q0:¬ 0<PL:=by omega
   have q1:¬ (0:Int)<(PL:Int):=by omega
   clear q2 hPL hpl;go_wp2;go_ret;exact⟨congrArg (λb=>Ending.returned (.bool b)) HF.out,HB.out⟩
  obtain⟨N1,hN1⟩:∃ N1,P.length=N1+1:=⟨P.length-1,by omega⟩
  obtain⟨ap,y,B2,c2,e1,hxx,-,hxc,-,-,-⟩:=HSEE.out.at N1 (by omega);subst e1;obtain⟨xd,hxd⟩:=Ze y.1;have hlp:Zjv P=xd:=by unfold Zjv;rw[hN1,Ybk,Yaw,hxx,hxd];rfl
  rw[<- hxd]at hxc;have hwn:IntKind.i64.wrap (((P.length:Nat):Int)-1)=(N1:Int):=by rw[show((P.length:Nat):Int)-1=(N1:Int) by omega];exact Ybo _ (by omega)
  have r0:(0:Int)<=(N1:Int):=by omega
  have r1:(N1:Int)<((P.length:Nat):Int):=by omega
  have d2:decide ((0:Int)<((P.length:Nat):Int))=true:=Yb0 (by omega);have HF:Hid (decide (xd<docs)=r):=Zh (by
   rw[HR.out,hlp];rw[Bool.eq_iff_iff,decide_eq_true_iff,decide_eq_true_iff];exact⟨λh=>⟨rfl,by omega,h⟩,λh=>h.2.2⟩)
  obtain⟨PL,hPL⟩:=Ze P.length;rw[<- hPL]at hwn r1 d2 ⊢;clear q2 hxx hxd hlp hN1 hPL hpl;go_wp2;go_ret;exact⟨congrArg (λb=>Ending.returned (.bool b)) HF.out,HB.out⟩
 ·have d1:(E==0)=false:=by simpa using q1
  have HF:Hid (false=r):=Zh (by rw[HR.out];exact(Ybt (λh=>q1 h.1)).symm);clear q1;go_wp2;go_ret;exact⟨congrArg (λb=>Ending.returned (.bool b)) HF.out,HB.out⟩
theorem Zul (w:World) (A:Option Addr) (n c:Nat) (f:Nm) (h:BytesIn w A n f) (hn:n<=1099511627776) (N:Nat) (hN:N<=1000000):
  Calls Tryz.prog 50 #[.slice A n c,.int .i64 N] w λe w'=>e=.returned (.tuple #[.int .i64 (Zi2 f N).1,.bool (Zi2 f N).2])/\Below w.heap.size w w':=by
 have HI:=Zh h;obtain⟨s0,hs0⟩:∃ s:Rd,s=⟨f,0,0⟩:=⟨_,rfl⟩
 obtain⟨D,hD⟩:=Ze ((rInt s0 N).1);obtain⟨s1,hs1⟩:=Ze ((rInt s0 N).2);obtain⟨T,hT⟩:=Ze ((rInt s1 N).1);obtain⟨s2,hs2⟩:=Ze ((rInt s1 N).2);have bD:=Zdo s0 (m:=(N:Int)) (by omega);have bT:=Zdo s1 (m:=(N:Int)) (by omega);rw[<- hD]at bD;rw[<- hT]at bT;have hH:Zi2 f N=(D,decide (D+T=(N:Int)/\s2.e=0/\Zbt s2=0)):=by
  unfold Zi2;rw[<- hs0,<- hD,<- hs1,<- hT,<- hs2]
 rw[hH];have HS0:=Zh hs0;have HD:=Zh hD;have HS1:=Zh hs1;have HT:=Zh hT;have HS2:=Zh hs2;have hwz:IntKind.i64.wrap (D+T)=D+T:=Ybo _ (by omega);clear h hs0 hD hs1 hT hs2 hH;go_enter Tryz.func50,Tryz.ntmps50;go_wp2_with fail;refine(Zlm w A n c f HI.out hn).mono ?_;rintro e w1 ⟨q,b,g,rfl,hq,hql,hbl,hb⟩;rw[<- HS0.out]at hq;have HQ1:=Zh hq;have HB1:=Zh hb;have c1:=hq.blk.cell 0;simp only[lz0,lz1,lz2]at c1;clear hq hb;go_wp2_with fail;refine(Zjw w1 b g s0 HQ1.out.rd (N:Int) (by omega) (by omega)).mono ?_;rintro e w2 ⟨rfl,hr,hk⟩;rw[<- HS1.out]at hr;rw[<- HD.out];have HQ2:=Zh (HQ1.out.read hk hr);have HB2:=Zh (HB1.out.trans (hk.toBelow HB1.out.size (λi hi=>by rw[hi];exact hbl)));have c2:=HQ2.out.blk.cell 0;simp only[lz0,lz1,lz2]at c2;clear hr hk c1;go_wp2_with fail;refine(Zjw w2 b g s1 HQ2.out.rd (N:Int) (by omega) (by omega)).mono ?_;rintro e w3 ⟨rfl,hr,hk⟩;rw[<- HS2.out]at hr;rw[<- HT.out];have HQ3:=Zh (HQ2.out.read hk hr);have HB3:=Zh (HB2.out.trans (hk.toBelow HB2.out.size (λi hi=>by rw[hi];exact hbl)));clear hr hk c2;obtain⟨r,hr⟩:∃ r,(D+T==(N:Int))=r:=⟨_,rfl⟩
 have HR:=Zh hr;go_wp2_with fail;clear hr;refine(Zi5 HQ3.out r).mono ?_;rintro e w4 ⟨rfl,hq,hk⟩;have HQ4:=Zh hq;have HB4:=Zh (HB3.out.trans (hk.toBelow HB3.out.size (λi hi=>by rw[hi];exact hql)));clear hq hk;have HISR:=Zh (Zf9 HQ4.out);obtain⟨R2,hR2⟩:=Ze ((!(false||!r)&&decide (s2.e=0/\Zbt s2=0)));rw[<- hR2]at HISR;have HR2:=Zh hR2;clear hR2;go_wp2_with fail;refine HISR.out.mono ?_;rintro e w5 ⟨rfl,rfl⟩;have hfin:R2=decide (D+T=(N:Int)/\s2.e=0/\Zbt s2=0):=by
  rw[HR2.out,<- HR.out];by_cases h:D+T=(N:Int)<;>simp[h]
 have HFIN:=Zh hfin;clear hfin;go_wp2;go_ret2;exact⟨congrArg (λb=>Ending.returned (.tuple #[.int .i64 D,.bool b])) HFIN.out,HB4.out⟩
def Qc4 (w:World) (r:Option (List (Nm×Nm))) (e:Ending) (w':World):Prop:=
 ∃ v ok,e=.returned (.tuple #[v,.bool ok])/\Below w.heap.size w w'/\match r with
  | none=>ok=false
  | some D=>ok=decide (Zb1 D)/\∃ A c,v=.slice A D.length c/\DocsIn w' A D.length D/\D.length<=c/\∀ ad,A=some ad->0<D.length->w.heap.size<=ad.block/\ad.block<w'.heap.size
theorem Zuq (w:World) (A:Option Addr) (n c:Nat) (L l:List Nm) (h:RowsSee w A n L) (hn:n<=1000000) (hs:∀ x∈L,x.length<=262144) (hl:∀ j,j<n->l.getD (1+j) []=L.getD j []):
  Calls Tryz.prog 51 #[.slice A n c] w (Qc4 w (Zc7 l n)):=by
 obtain⟨i1,hi1,hy0,hy1,hy2⟩:=info_parts Qab;obtain⟨R,hR⟩:=Ze (Zc7 l n);rw[<- hR];have HR:=Zh hR;have HL:=Zh h;have HS:=Zh hs;have HLL:=Zh hl;have HSM:Hid (∀ k D,Zc7 l k=some D->k<=n->∀ p∈D,p.1.length<=262144/\p.2.length<=262144):=Zh (λk=>by
  induction k with
  | zero=>intro D hd _ p hp;simp[Zc7]at hd;subst hd;simp at hp
  | succ k ih=>
   intro D hd hk p hp;simp only[Zc7]at hd;split at hd
   ·cases hd
   ·rename_i D0 h0
    split at hd
    ·cases hd
    ·cases hd
     rcases Ybj.1 hp with hp|hp
     ·exact ih D0 h0 (by omega) p hp
     ·rw[Ybi.1 hp]
      have h1:=Zgp (l.getD (1+k) []);have h2:(l.getD (1+k) []).length<=262144:=by
       rw[hl k (by omega),Yaw];cases hx:L[k]? with
       | none=>simp
       | some x=>exact hs x (Ybz hx)
      omega)
 clear h hs hl hR;go_enter Tryz.func51,Tryz.ntmps51;go_wp2;go_loopw [4,12] (λv i wr=>∃ (k:Nat) (D:List (Nm×Nm)),k<=n/\i=.int .i64 k/\Zc7 l k=some D/\wr.ownsRow w.heap.size 49 2 v D.length (D.flatMap Zdt)/\Below w.heap.size w wr) (λ_ i _=>n-(intOf i).toNat);case atStart=>exact⟨0,[],by omega,rfl,rfl,Yb2 _ _ _ _,Ybm _ _⟩
 case round=>
  obtain⟨k,D,hk,rfl,hd,ho,hb⟩:=hrel;obtain⟨Ad,cd,hvd⟩:=Zac ho;subst hvd;have HDG:=Zh hd;have HO:=Zh ho;have HB:=Zh hb;have hsz:=hb.size;have hdl:=Zhx hd;have hdm:D.length<=1000000:=by omega
  have HDL:=Zh hdl;clear hd ho hb hdl;rcases Yab k n with hlt|hge
  ·have d2:decide ((k:Int)<(n:Int))=true:=by simpa using hlt
   have p0:(0:Int)<=(k:Int):=by omega
   have p1:(k:Int)<(n:Int):=by omega
   obtain⟨f,hf⟩:∃ f,L[k]?=some f:=⟨_,Yax (by have:=HL.out.len;omega)⟩
   have hfs:=HS.out f (Ybz hf);obtain⟨ad,B1,c1,rfl,hcell,hcc,hB1⟩:=(HL.out.below HB.out).at_ k f hf;have HF:=Zh (show l.getD (1+k) []=f by rw[HLL.out k hlt,Yaw,hf];rfl);have HBY:=Zh hB1;clear hf hB1;go_wp2_with fail;refine(Zlm wr B1 f.length c1 f HBY.out (by omega)).mono ?_;rintro e v1 ⟨q,b,g,rfl,hq,hql,hbl,hb1⟩;have HQ1:=Zh hq;have HW1:=Zh hb1;have y1:=hq.blk.cell 0;simp only[lz0,lz1,lz2]at y1;clear hq hb1 hcell hcc HBY;go_wp2_with fail;refine(Zx4 v1 b g ⟨f,0,0⟩ HQ1.out.rd 32 (by omega) (by omega)).mono ?_;rintro e v2 ⟨vk,rfl,hok,hr2,hk2⟩;obtain⟨KY,hK⟩:=Ze ((Zek ⟨f,0,0⟩ 32).1);obtain⟨s1,hs1e⟩:=Ze ((Zek ⟨f,0,0⟩ 32).2);have hKl:KY.length<=262144:=by
    have h1:=(Zgp f).1;rw[hK];exact Ybu h1 hfs
   have hok1:s1.Ok:=by rw[hs1e];exact(Qa4 (s:=⟨f,0,0⟩) ⟨Ybd _⟩ 32).1
   rw[<- hK]at hok;rw[<- hs1e]at hr2;have HQ2:=Zh (HQ1.out.read hk2 hr2);have HW2:=Zh (HW1.out.trans (hk2.toBelow HW1.out.size (λi hi=>by rw[hi];exact hbl)));have HOK:=Zh hok;have HK':=Zh hK;have HS1e:=Zh hs1e;have HOK1:=Zh hok1;have hv12:=hk2.size;have HV1:=HW1.out.size;obtain⟨Ak,ck,rfl⟩:=Zac hok;clear hok hr2 hk2 hK hs1e hok1 y1;go_wp2_with fail;refine(Zmp HQ2.out).mono ?_;rintro e v3 ⟨vx,rfl,hox,hq3,hk3⟩;obtain⟨Tx,hTx⟩:=Ze ((Zbd s1 (Zbt s1)).1);obtain⟨s2,hs2e⟩:=Ze ((Zbd s1 (Zbt s1)).2);have HDOC:Hid (docG f=((KY,Tx),s2.e)):=Zh (by
    unfold docG;rw[<- HK'.out,<- HS1e.out,<- hTx,<- hs2e])
   have hTl:Tx.length<=262144:=by
    have h1:=(Zgp f).2;rw[HDOC.out]at h1;exact Ybu h1 hfs
   have HEND:Hid (decide (s2.e=0/\Zbt s2=0)=decide (s2.e=0)):=Zh (by
    rw[Bool.eq_iff_iff,decide_eq_true_iff,decide_eq_true_iff];exact⟨λh=>h.1,λh=>⟨h,by rw[hs2e]at h ⊢;exact Zmu HOK1.out h⟩⟩)
   rw[<- hTx]at hox;rw[<- hs2e]at hq3;obtain⟨Ax,cx,rfl⟩:=Zac hox;have HW3:=Zh (HW2.out.trans (hk3.toBelow HW2.out.size (λi hi=>by rw[hi];exact hbl)));have HIK:Hid (BytesIn v3 Ak KY.length KY):=Zh (BytesIn.own (Zab HOK.out λi hi=>hk3.block i (HOK.out.lt i hi).2 (λe=>by have h1:=(HOK.out.lt i hi).1;have h2:b<v1.heap.size:=(by obtain⟨A,c,h1,_⟩:=HQ1.out.rd.at_;exact h1.lt);omega)) (by unfold maxLen;omega));have HIX:Hid (BytesIn v3 Ax Tx.length Tx):=Zh (BytesIn.own hox (by unfold maxLen;omega));have HISR:=Zh (Zf9 hq3);rw[HEND.out]at HISR;have HB3:=Zh (HB.out.trans (HW3.out.mono hsz));clear hox hq3 hk3 hTx hs2e HOK HQ2 HQ1 HK' HS1e HOK1 HEND;go_wp2_with fail;refine HISR.out.mono ?_;rintro e v4 ⟨rfl,rfl⟩;by_cases he:s2.e=0;case neg=>
    have HN:Hid (R=none):=Zh (by
     rw[HR.out];refine Zje (i:=k+1) ?_ (by omega);simp only[Zc7];rw[HDG.out];simp only;rw[HF.out,HDOC.out,Yag he])
    rw[Ybt he];clear he;go_wp2;go_ret2;refine⟨_,_,rfl,HB3.out,?_⟩;rw[HN.out]
   rw[Yb0 he];have HE:=Zh he;have g1:∀ u:World,u=v4->(convert 24 9 (.slice Ak KY.length ck)).run Tryz.prog u=.ok (.string ⟨KY.toArray⟩) u:=λu hu=>by rw[hu];exact Zdx HIK.out ck
   have g2:∀ u:World,u=v4->(convert 24 9 (.slice Ax Tx.length cx)).run Tryz.prog u=.ok (.string ⟨Tx.toArray⟩) u:=λu hu=>by rw[hu];exact Zdx HIX.out cx
   have g1':=g1 v4 rfl;have g2':=g2 v4 rfl;clear he g1 g2;obtain⟨W5,hW5⟩:=Ze (v4.alloc (.cells #[.string ⟨KY.toArray⟩,.string ⟨Tx.toArray⟩] 49));have hb5:Below v4.heap.size v4 W5:=by rw[hW5];exact(Ybm _ _).alloc (Yar _) _
   have HM5:Hid (Blk W5 v4.heap.size 49 #[.string ⟨KY.toArray⟩,.string ⟨Tx.toArray⟩]):=Zh (by rw[hW5];exact Blk.new _ _ _);have HB5:=Zh (Zaa HB3.out hb5 HB3.out.size);have HO5:=Zh (Zab HO.out λi hi=>(HW3.out.trans (hb5.mono HW3.out.size)).block i (HO.out.lt i hi).2);have hs5:=HB5.out.size;have HW5:=Zh hW5;clear hb5 hW5;go_wp2_with (at_builtin;rw[<- HW5.out];refine wpList_append_own_at _ rfl (.tmp 28) (.tmp 34) 23 rfl w.heap.size 49 i1 _ 2 32 Tryz.underlying23 hi1 hy0 hy1 hy2 rfl (by decide) (.slice Ad D.length cd) D.length (D.flatMap Zdt) rfl HO5.out ⟨v4.heap.size,0,none⟩ 1 1 (Zdt (KY,Tx)) rfl rfl (Zrq HM5.out) (Zzp (KY,Tx)) (by unfold maxLen;omega) (by omega) hs5 ?_;intro v6 w6 hown hgrow _ _;have HO6:=Zh hown;have HB6:=Zh (HB5.out.grown hgrow hs5 (λg hg=>(HO5.out.lt g hg).1));clear hown hgrow);refine⟨⟨k+1,D++[(KY,Tx)],by omega,by go_num,?_,?_,HB6.out⟩,by simp[intOf];omega⟩
   ·simp only[Zc7]
    rw[HDG.out];simp only;rw[HF.out,HDOC.out,Yaf (by simp[HE.out])]
   ·rw[Yaq,Ybg,Ybh]
    exact HO6.out
  ·obtain rfl:k=n:=by omega
   have d2:decide ((k:Int)<(k:Int))=false:=by simp
   have hDI:=DocsIn.ofRow HO.out rfl (by unfold maxLen;omega) (λp hp=>by have:=HSM.out k D HDG.out (Yar _) p hp;unfold maxLen;omega);have HDI:=Zh hDI;have HCAP:=Zh (Zbi HO.out);clear hDI;go_wp2_with fail;refine(Zhr wr Ad D.length cd D HDI.out).mono ?_;rintro e x1 ⟨rfl,hbx⟩;have HBX:=Zh (HB.out.trans (hbx.mono hsz));have HDX:=Zh (HDI.out.below hbx);have hsx:=hbx.size;clear hbx;go_wp2;go_ret2;refine⟨_,_,rfl,HBX.out,?_⟩;rw[HR.out,HDG.out];exact⟨rfl,Ad,cd,rfl,HDX.out,HCAP.out,λad e _=>by have:=HO.out.lt ad.block (by rw[e];rfl);omega⟩
theorem Zk9:(Tryz.prog.info? 49).map (·.size)=some 2:=by kernel_rfl
theorem Zl7:∀ {l:List Int} {a:Int},(∀ x∈l,a<=x/\x<512)->l.Pairwise (·<·)->a<=512->(l.length:Int)<=512-a
 | [],_,_,_,h=>by simp;omega
 | x :: r,a,h,hp,_=>by
  rw[Ycj]at hp;have h1:=h x (Yam ..);have h2:=Zl7 (a:=x+1) (λy hy=>by have:=hp.1 y hy;have:=h y (Yap _ hy);omega) hp.2 (by omega);rw[Yah];omega
def DocsF (w:World) (G:Nat->Prop) (A:Option Addr) (n:Nat) (l:List (Nm×Nm)):Prop:=DocsIn w A n l/\∀ ad,A=some ad->0<n->G ad.block
theorem DocsF.keep {w w':World} {G:Nat->Prop} {A:Option Addr} {n:Nat} {l:List (Nm×Nm)} (h:DocsF w G A n l) (hk:∀ i,G i->w'.heap[i]?=w.heap[i]?):DocsF w' G A n l:=by
 obtain⟨h1,h2⟩:=h;refine⟨⟨h1.len,h1.fit,h1.vals,h1.nil,λad e i p hp=>?_⟩,h2⟩;have hlt:=(Ybb.1 hp).1;have hb:=hk _ (h2 ad e (by have:=h1.len;omega));obtain⟨c1,c2⟩:=h1.cells ad e i p hp;have hbl:∀ j,(ad.add j).block=ad.block:=λj=>by unfold Addr.add;split<;>rfl
 exact⟨(Yb4 (by rw[hbl];exact hb)).trans c1,(Yb4 (by rw[hbl];exact hb)).trans c2⟩
def Sg0 (w:World) (F:Nat->Prop) (g:Nat) (D:List (Nm×Nm)) (T:List (Int×List Pst)):Prop:=
 F g/\(∀ i,F i->i<w.heap.size)/\∃ A c mb f,Blk w g 112 #[.slice A D.length c,.map (some mb)]/\D.length<=c/\DocsF w F A D.length D/\F mb/\BMap w mb T.length f (λi=>F i/\i≠mb)/\SegF f T
theorem Sg0.keep {w w':World} {F:Nat->Prop} {g:Nat} {D:List (Nm×Nm)} {T:List (Int×List Pst)} (h:Sg0 w F g D T) (hk:∀ i,F i->w'.heap[i]?=w.heap[i]?) (hs:w.heap.size<=w'.heap.size):Sg0 w' F g D T:=by
 obtain⟨h1,h2,A,c,mb,f,h3,h4,h5,h6,h7,h8⟩:=h;exact⟨h1,λi hi=>Ya7 (h2 i hi) hs,A,c,mb,f,(hk g h1).trans h3,h4,h5.keep hk,h6,h7.keep (hk mb h6) (λi hi=>hk i hi.1) (λ_ h=>h) hs,h8⟩
theorem Zug {w:World} {F:Nat->Prop} {g:Nat} {D:List (Nm×Nm)} {T:List (Int×List Pst)} (h:Sg0 w F g D T):Calls Tryz.prog 19 #[.pointer (some ⟨g,0,none⟩)] w λe w'=>e=.returned (.int .i64 (D.length:Int))/\Below w.heap.size w w':=by
 obtain⟨h1,h2,A,c,mb,f,h3,h4,h5,h6,h7,h8⟩:=h;have c0:=h3.cell 0;simp only[lz0,lz1,lz2]at c0;obtain⟨n,hn⟩:=Ze D.length;rw[<- hn]at c0 ⊢;clear h1 h2 h3 h4 h5 h6 h7 h8 hn;go_enter Tryz.func19,Tryz.ntmps19;go_wp2;go_ret;exact⟨rfl,Ybm _ _⟩
theorem Zpx {w:World} {F:Nat->Prop} {g:Nat} {D:List (Nm×Nm)} {T:List (Int×List Pst)} (h:Sg0 w F g D T) (t:Int) (ht:Zaj t):Calls Tryz.prog 24 #[.pointer (some ⟨g,0,none⟩),.int .i64 t] w (Zxy K0 w (Zey T t)):=by
 obtain⟨h1,h2,A,c,mb,f,h3,h4,h5,h6,h7,h8⟩:=h;have c1:=h3.cell 1;simp only[lz0,lz1,lz2]at c1;obtain⟨v,hlook,hv⟩:=h7.look ht;obtain⟨hf1,hf2⟩:=h8 t;rw[<- hf1];cases hft:f t with
 | none=>
  rw[hft]at hlook;simp only[Option.isSome_none]at hlook;clear h1 h2 h3 h4 h5 h6 h7 h8 hv hf1 hf2 hft;go_enter Tryz.func24,Tryz.ntmps24;go_wp2;go_ret;exact⟨Ybm _ _,rfl⟩
 | some s=>
  rw[hft]at hlook;simp only[Option.isSome_some]at hlook;obtain⟨B,n,cc,rfl,hbi,⟨hcc,hnm⟩,-⟩:=hv s hft;have HBI:=Zh hbi;have HE:=Zh (hf2 s hft);have hn:n<=1099511627776:=by omega
  clear hnm;clear h1 h2 h3 h4 h5 h6 h7 h8 hv hf1 hf2 hft hbi;go_enter Tryz.func24,Tryz.ntmps24;go_wp2_with fail;refine(Qe9 w B n cc s HBI.out hcc hn HE.out).mono ?_;rintro e w1 ⟨b,G,rfl,hb,hk,hg⟩;have HB:=Zh hb;have HK:=Zh hk;clear hb hk;go_wp2;go_ret;exact⟨HB.out,b,G,rfl,HK.out,hg⟩
theorem Zr4 {w:World} {F:Nat->Prop} {g:Nat} {D:List (Nm×Nm)} {T:List (Int×List Pst)} (h:Sg0 w F g D T) (hup:(T.map Prod.fst).Pairwise (·<·)) (htok:∀ x∈T,0<=x.1/\x.1<=511):Calls Tryz.prog 25 #[.pointer (some ⟨g,0,none⟩)] w (Zg6 w (T.map Prod.fst)):=by
 obtain⟨h1,h2,A,c,mb,f,h3,h4,h5,h6,h7,h8⟩:=h;obtain⟨E,hM,hD⟩:=h7.own;have c1:=h3.cell 1;simp only[lz0,lz1,lz2]at c1;obtain⟨K,hK⟩:=Ze (T.map Prod.fst);rw[<- hK]at hup ⊢;have hfit:∀ x∈K,0<=x/\x<=511:=λx hx=>by
  rw[hK]at hx;obtain⟨y,hy,rfl⟩:=Yaz.1 hx;exact htok y hy
 have hlen:K.length<=512:=by have:=Zl7 (a:=0) (λx hx=>by have:=hfit x hx;omega) hup (by omega);omega
 have htl:T.length<=512:=by rw[hK,Ybf]at hlen;exact hlen
 have hmax:Maps.size E<=maxLen:=by have:=hM.size_le;unfold maxLen;omega
 have hbytes:Maps.size E*8<=140737488355328:=by have:=hM.size_le;omega
 have hmem:∀ t,t∈K↔(f t).isSome=true:=λt=>by rw[hK,h8.isSome]
 have HKE:=Zh ((callsIn_wide (n:=5)).1 (Tryz.imaps_KeysB (some mb) w));have hso:Calls Tryz.prog 69 #[.func (.func 125) #[] #[.pointer (some ⟨w.heap.size,0,none⟩)]] (w.alloc (.cells #[.map (some mb)] 108)) (Zg6 w K):=by
  refine((callsIn_wide (n:=5)).1 (Tryz.islices_Sorted_keysB mb T.length E _ w hM hmax hbytes)).mono ?_;rintro e2 w2 ⟨v,ss,rfl,hP,hrow,hnil,hb⟩;have hk1:ss.mergeSort leI=K:=BMap.keys hM hD hup hmem hP;have hrow':w2.ownsRow (w.alloc (.cells #[.map (some mb)] 108)).heap.size 3 1 v ss.length ((ss.mergeSort leI).map i64V):=hrow;have hsl:ss.length=K.length:=by rw[<- hk1];exact(List.mergeSort_perm ss leI).length_eq.symm
  rw[hk1,hsl]at hrow';obtain⟨A,c,rfl,hc⟩:=Za0 hrow';exact⟨A,c,rfl,IntsIn.own hrow' (by unfold maxLen;omega) (λx hx=>by have:=hfit x hx;omega),hc,((Ybm _ w).alloc (Yar _) _).trans (hb.mono (by simp))⟩
 have HSO:=Zh hso;clear hso hmax hbytes hfit hup hM hD h1 h2 h3 h4 h5 h6 h7 h8 hmem hlen htl htok hK;go_enter Tryz.func25,Tryz.ntmps25;go_wp2_with (first
  | (go_at_call 70;refine HKE.out.mono ?_;rintro e2 w2 ⟨rfl,rfl⟩)
  | (go_at_call 69;refine HSO.out.mono ?_;rintro e2 w2 ⟨Ak,ck,rfl,hki,hck,hb2⟩))
 go_ret;exact⟨Ak,ck,rfl,hki,hck,hb2⟩
theorem Zzy {w:World} {F:Nat->Prop} {g:Nat} {D:List (Nm×Nm)} {T:List (Int×List Pst)} (h:Sg0 w F g D T) (i:Int) (hi:Zaj i):Calls Tryz.prog 20 #[.pointer (some ⟨g,0,none⟩),.int .i64 i] w λe w'=>
  e=.returned (.tuple #[.agg #[.string ⟨(Zim D i).1.toArray⟩,.string ⟨(Zim D i).2.toArray⟩],.bool (decide (0<=i/\i<(D.length:Int)))])/\Below w.heap.size w w':=by
 obtain⟨h1,h2,A,c,mb,f,h3,h4,h5,h6,h7,h8⟩:=h;have hb0:Below w.heap.size w (w.alloc (.cells #[.string ⟨#[]⟩,.string ⟨#[]⟩] 49)):=(Ybm _ w).alloc (Yar _) _;have c0:=(h3.below hb0 h3.lt).cell 0;simp only[lz0,lz1,lz2]at c0;obtain⟨n,hn⟩:=Ze D.length;have HL:=Zh h5.1;rw[<- hn]at c0 HL;have HN:=Zh hn;have HD:Hid (Zim D i=if 0<=i/\i<(n:Int) then D.getD i.toNat ([],[]) else ([],[])):=Zh (by unfold Zim;rw[<- hn]);rw[<- hn];have hil:=hi.1;have hih:=hi.2;clear h1 h2 h3 h4 h5 h6 h7 h8 hn hi;by_cases q1:i<0
 ·have d1:decide (i<0)=true:=Yb0 q1
  have hd:Zim D i=([],[]):=by rw[HD.out,Yaf (by omega)]
  rw[hd,Ybt (show ¬ (0<=i/\i<(n:Int)) by omega)];clear hd;go_enter Tryz.func20,Tryz.ntmps20;go_wp2;refine bodyPost_ret (Zal rfl _ _ w.heap.size 49 #[.string ⟨#[]⟩,.string ⟨#[]⟩] (0,0) _ rfl (Ybl w _) Tryz.underlying49 rfl Zk9) rfl ?_;exact⟨rfl,hb0⟩
 have d1:decide (i<0)=false:=Ybt q1;obtain⟨k,rfl⟩:∃ k:Nat,i=k:=⟨i.toNat,by omega⟩
 by_cases q2:n<=k
 ·have d2:decide ((n:Int)<=(k:Int))=true:=Yb0 (by omega)
  have hd:Zim D (k:Int)=([],[]):=by rw[HD.out,Yaf (by omega)]
  rw[hd,Ybt (show ¬ (0<=(k:Int)/\(k:Int)<(n:Int)) by omega)];have q3:(n:Int)<=(k:Int):=by omega
  clear hd q1;go_enter Tryz.func20,Tryz.ntmps20;go_wp2;refine bodyPost_ret (Zal rfl _ _ w.heap.size 49 #[.string ⟨#[]⟩,.string ⟨#[]⟩] (0,0) _ rfl (Ybl w _) Tryz.underlying49 rfl Zk9) rfl ?_;exact⟨rfl,hb0⟩
 have d2:decide ((n:Int)<=(k:Int))=false:=Ybt (by omega);have hkn:k<n:=by omega
 obtain⟨pa,p,rfl,hp,a0,a1,v1,v2⟩:=(HL.out.below hb0).at k hkn;obtain⟨pk,pt⟩:=p;simp only at a0 a1;have hd:Zim D (k:Int)=(pk,pt):=by rw[HD.out,Yag (by omega),Yb3,Yaw,hp];rfl
 rw[hd,Yb0 (show 0<=(k:Int)/\(k:Int)<(n:Int) by omega)];have p0:(0:Int)<=(k:Int):=by omega
 have p1:(k:Int)<(n:Int):=by omega
 have q3:¬ (n:Int)<=(k:Int):=by omega
 have hb1:Below w.heap.size w (w.alloc (.cells #[.string ⟨pk.toArray⟩,.string ⟨pt.toArray⟩] 49)):=(Ybm _ w).alloc (Yar _) _;have HB1:=Zh hb1;clear hd q1 hp v1 v2 hb1;go_enter Tryz.func20,Tryz.ntmps20;go_wp2;refine bodyPost_ret (Zal rfl _ _ w.heap.size 49 #[.string ⟨pk.toArray⟩,.string ⟨pt.toArray⟩] (0,0) _ rfl (Ybl w _) Tryz.underlying49 rfl Zk9) rfl ?_;exact⟨rfl,HB1.out⟩
end Go.Proofs.YthcjikpabpgpfaaGreat
