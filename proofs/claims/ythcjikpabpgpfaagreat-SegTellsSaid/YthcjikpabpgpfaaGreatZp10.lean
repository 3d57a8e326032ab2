import Derived.Test.YthcjikpabpgpfaaGreatZp6
import Derived.Maps.OwnRows
import Derived.Maps.GroupsBeside
import Derived.Lib.SlKeysI
import Derived.OwnWalk
import Derived.Test.YthcjikpabpgpfaaGreatZp5
set_option linter.unusedSimpArgs false
set_option maxHeartbeats 16000000
set_option maxRecDepth 100000
namespace Go.Proofs.YthcjikpabpgpfaaGreat
section
abbrev Pl:=Int×Int×Int
def plUp (x:MDoc) (t:Int) (k:Nat):List Pl:=(Zbu x t k).map λs=>(x.doc,s)
def plOf (L:List MDoc) (t:Int):List Pl:=L.flatMap λx=>plUp x t x.T.length
theorem Zp4 (x:MDoc) (t:Int) (k:Nat):plUp x t (k+1)=if x.T.getD k 0=t then plUp x t k++[(x.doc,(k:Int),x.S.getD k 0)] else plUp x t k:=by
 unfold plUp;rw[Zbu];split
 ·rw[Ybe];rfl
 ·rfl
theorem Zsz (x:MDoc) (t:Int) (k:Nat):(plUp x t k).length<=k:=by
 unfold plUp;rw[Ybf];exact Zgj x t k
theorem Zk1 (L:List MDoc) (x:MDoc) (t:Int):plOf (L++[x]) t=plOf L t++plUp x t x.T.length:=by
 unfold plOf;rw[Ybg,Ybh]
theorem Ztf (L:List MDoc) (t:Int):(plOf L t).length<=totT L:=by
 induction L with
 | nil=>simp[plOf]
 | cons x L ih=>
  have h1:=Zsz x t x.T.length;have h2:plOf (x :: L) t=plUp x t x.T.length++plOf L t:=rfl;have h3:totT (x :: L)=x.T.length+totT L:=by simp[totT]
  rw[h2,Yaq];omega
theorem plUp_some {x:MDoc} {t:Int}:plUp x t x.T.length≠[]↔t∈x.T:=by
 constructor
 ·intro h
  obtain⟨p,hp⟩:=List.exists_mem_of_ne_nil _ h;obtain⟨s,hs,-⟩:=Yaz.1 hp;obtain⟨i,h1,h2,-⟩:=spotUp_mem.1 hs;rw[<- h2,Yaw,Yax h1];exact Yay h1
 ·intro h e
  obtain⟨i,h1,h2⟩:=List.getElem_of_mem h;have h3:((i:Int),x.S.getD i 0)∈Zbu x t x.T.length:=spotUp_mem.2 ⟨i,h1,by rw[Yaw,Yax h1];exact h2,rfl⟩;have h4:(x.doc,(i:Int),x.S.getD i 0)∈plUp x t x.T.length:=Yaz.2 ⟨_,h3,rfl⟩;rw[e]at h4;cases h4
theorem plOf_some {L:List MDoc} {t:Int}:plOf L t≠[]↔t∈Zas L:=by
 rw[terms_mem]
 induction L with
 | nil=>simp[plOf]
 | cons x L ih=>
  have h2:plOf (x :: L) t=plUp x t x.T.length++plOf L t:=rfl;rw[h2];constructor
  ·intro h
   by_cases h3:plUp x t x.T.length=[]
   ·rw[h3,Yad]at h
    obtain⟨y,hy,h4⟩:=ih.1 h;exact⟨y,Yap _ hy,h4⟩
   ·exact⟨x,Yam ..,plUp_some.1 h3⟩
  ·rintro⟨y,hy,h4⟩ e
   obtain⟨e1,e2⟩:=List.append_eq_nil_iff.1 e;rcases Yat.1 hy with rfl|h5
   ·exact plUp_some.2 h4 e1
   ·exact ih.2 ⟨y,h5,h4⟩ e2
def grp1 (l:List Pst) (p:Pl):List Pst:=match l.getLast? with
 | none=>[(p.1,[p.2])]
 | some x=>if x.1=p.1 then l.dropLast++[(x.1,x.2++[p.2])] else l++[(p.1,[p.2])]
theorem Zst (p:Pl):grp1 [] p=[(p.1,[p.2])]:=rfl
theorem Zh7 {P:List Pst} {x:Pst} {p:Pl} (h:x.1=p.1):grp1 (P++[x]) p=P++[(x.1,x.2++[p.2])]:=by
 unfold grp1;rw[List.getLast?_concat];simp only[Yag h,List.dropLast_concat]
theorem Zgw {P:List Pst} {x:Pst} {p:Pl} (h:x.1≠p.1):grp1 (P++[x]) p=(P++[x])++[(p.1,[p.2])]:=by
 unfold grp1;rw[List.getLast?_concat];simp only[Yaf h]
theorem Zi3:∀ (l:List Pst),l=[]\/∃ P x,l=P++[x]:=λl=>by
 rcases List.eq_nil_or_concat l with h|⟨P,x,h⟩
 ·exact .inl h
 ·exact .inr ⟨P,x,by simpa using h⟩
def Zfd (ps:List Pl):List Pst:=ps.foldl grp1 []
theorem Zmd {ps:List Pl} {k:Nat} {p:Pl} (h:ps[k]?=some p):Zfd (ps.take (k+1))=grp1 (Zfd (ps.take k)) p:=by
 unfold Zfd;rw[Ya5,h,List.foldl_append];rfl
theorem Zz5 (l:List Pst) (p:Pl):(grp1 l p).length<=l.length+1:=by
 rcases Zi3 l with rfl|⟨P,x,rfl⟩
 ·rw[Zst];simp
 ·by_cases h:x.1=p.1
  ·rw[Zh7 h];simp
  ·rw[Zgw h];simp
theorem Zp6 (ps:List Pl):∀ k,k<=ps.length->(Zfd (ps.take k)).length<=k/\∀ x∈Zfd (ps.take k),x.2.length<=k
 | 0,_=>by simp[Zfd]
 | k+1,hk=>by
  obtain⟨h1,h2⟩:=Zp6 ps k (by omega);rw[Zmd (Yax (by omega:k<ps.length))];refine⟨by have:=Zz5 (Zfd (ps.take k)) ps[k];omega,λy hy=>?_⟩;rcases Zi3 (Zfd (ps.take k))with e|⟨P,x,e⟩
  ·rw[e,Zst]at hy
   rw[Ybi.1 hy];simp
  ·rw[e]at hy h2
   by_cases h:x.1=(ps[k]).1
   ·rw[Zh7 h]at hy
    rcases Ybj.1 hy with hy|hy
    ·have:=h2 y (by simp[hy]);omega
    ·have:=h2 x (by simp)
     rw[Ybi.1 hy];simp;omega
   ·rw[Zgw h]at hy
    rcases Ybj.1 hy with hy|hy
    ·have:=h2 y hy;omega
    ·rw[Ybi.1 hy]
     simp
theorem Zyx {P:List Pst} {x:MDoc} {t:Int} (hP:∀ y∈P,y.1≠x.doc):∀ k,(plUp x t k).foldl grp1 P=if Zbu x t k=[] then P else P++[(x.doc,Zbu x t k)]
 | 0=>by simp[plUp,Zbu]
 | k+1=>by
  have ih:=Zyx hP (t:=t) k;rw[Zp4,Zbu];split
  ·rw[List.foldl_append,ih]
   simp only[List.foldl_cons,List.foldl_nil];rw[Yaf (by simp:¬ (Zbu x t k++[((k:Int),x.S.getD k 0)]=[]))];by_cases h:Zbu x t k=[]
   ·rw[Yag h,h]
    rcases Zi3 P with rfl|⟨Q,y,rfl⟩
    ·rfl
    ·rw[Zgw (hP y (by simp))]
     rfl
   ·rw[Yaf h,Zh7 rfl]
  ·exact ih
theorem Zth {L:List MDoc} (hL:MWF L) (t:Int):∀ i,i<=L.length->(plOf (L.take i) t).foldl grp1 []=Zb5 L t i
 | 0,_=>by simp[plOf,Zb5]
 | i+1,hi=>by
  have hx:L[i]?=some (L[i]'(by omega)):=Yax _;have ih:=Zth hL t i (by omega);rw[Ya5,hx,Option.toList_some,Zk1,List.foldl_append,ih,Zb5,Zq8 hx,Zyx (λy hy e=>?_)]
  ·unfold Zed Zdw
   by_cases h:Zbu L[i] t L[i].T.length=[]
   ·rw[Yag h,Yaf (by rw[h];simp),List.append_nil]
   ·rw[Yaf h,Yag (List.length_pos_iff.2 h)]
  ·obtain⟨j,h1,rfl,-⟩:=Zej hy
   have:=hL.up j i h1 (by omega)
   rw[Zq8 hx]at this;simp only at e;omega
theorem Zxj {L:List MDoc} (hL:MWF L) (t:Int):Zfd (plOf L t)=Zax L t:=by
 have:=Zth hL t L.length (Yar _)
 rw[Ya6]at this;exact this
theorem Qbp {x:MDoc} (hx:DocOk x) {t:Int} {p:Pl}:∀ {k:Nat},k<=x.T.length->p∈plUp x t k->(0<=p.1/\p.1<=4294967296)/\(0<=p.2.1/\p.2.1<4096)/\0<=p.2.2/\p.2.2<=9223372036854775807:=λ{k} hk h=>by
 obtain⟨s,hs,rfl⟩:=Yaz.1 h;obtain⟨i,h1,h2,rfl⟩:=spotUp_mem.1 hs;have h3:=hx.tok (i:=i) (by omega);have h4:x.S.getD i 0∈x.S:=by
  have:=hx.same
  rw[Yaw,Yax (by omega)];exact Yay _
 have h5:=hx.fit.2 _ h4;have:=hx.few
 exact⟨hx.doc,⟨by simp,by simp;omega⟩,h3.2,h5⟩
theorem Qa3 {L:List MDoc} (hL:MWF L) {t:Int} {p:Pl} (h:p∈plOf L t):(0<=p.1/\p.1<=4294967296)/\(0<=p.2.1/\p.2.1<4096)/\0<=p.2.2/\p.2.2<=9223372036854775807:=by
 obtain⟨x,hx,h2⟩:=List.mem_flatMap.1 h;exact Qbp (hL.ok x hx) (Yar _) h2
theorem Zsn {L:List MDoc} (h:0<L.length):Zjr L=(mD L (L.length-1)).doc:=by
 unfold Zjr;rw[Yaf (by omega)]
theorem Zzi {L:List MDoc} (hL:MWF L):-1<=Zjr L/\Zjr L<=4294967296:=by
 unfold Zjr;split
 ·omega
 ·have:=(hL.ok _ (Zp0 (by omega:L.length-1<L.length))).doc
  omega
theorem Qde {L:List MDoc} (hL:MWF L) (x:MDoc):mErr L x=if L.length=4096\/4096<x.T.length then 2 else if x.doc<Zjr L+1\/4294967296<x.doc\/x.T.length≠x.S.length\/Zdk x x.T.length=true then 1 else 0:=by
 have h1:=hL.few;unfold mErr;by_cases h2:L.length=4096\/4096<x.T.length
 ·rw[Yag h2,Yag (by omega)]
 ·rw[Yaf h2,Yaf (by omega)]
  have h3:(x.doc<0\/4294967296<x.doc\/(0<L.length/\x.doc<=(mD L (L.length-1)).doc))↔(x.doc<Zjr L+1\/4294967296<x.doc):=by
   rcases Yai L.length with h0|h0
   ·unfold Zjr
    rw[Yag h0];omega
   ·rw[Zsn h0]
    have:=(hL.ok _ (Zp0 (by omega:L.length-1<L.length))).doc
    omega
  by_cases h4:x.doc<Zjr L+1\/4294967296<x.doc
  ·have h5:=h3.2 h4
   rw[Yag (by omega),Yag (by omega)]
  ·have h5:=λh=>h4 (h3.1 h)
   by_cases h6:x.T.length≠x.S.length
   ·rw[Yag (by omega),Yag (by omega)]
   ·rw[Yaf (by omega)]
    by_cases h7:Zdk x x.T.length=true
    ·rw[Yag h7,Yag (.inr (.inr (.inr h7)))]
    ·rw[Yaf h7,Yaf (by rintro(h|h|h|h)<;>first|exact h7 h|omega)]
theorem Zvt {L:List MDoc} {x:MDoc}:Zjr (L++[x])=x.doc:=by
 rw[Zsn (by simp),Yaq,Yae,Ybk,Zyk]
end
section
open Go.RowKit Go.Maps Go.WideMaps
def Zcf (p:Pl):List Value:=[.int .i64 p.1,.int .i64 p.2.1,.int .i64 p.2.2]
theorem Qet:∀ (l:List Pl) (i j:Nat) (p:Pl) (u:Value),l[i]?=some p->(Zcf p)[j]?=some u->(l.flatMap Zcf)[i*3+j]?=some u
 | [],i,j,p,u,h,_=>by simp at h
 | a :: r,0,j,p,u,h,h2=>by
  simp at h;subst h;rw[Yan,Yba (by have:=(Ybb.1 h2).1;omega)];simpa using h2
 | a :: r,i+1,j,p,u,h,h2=>by
  have hl:(Zcf a).length=3:=rfl;rw[Yan,Ybc (by omega),hl,show(i+1)*3+j-3=i*3+j by omega];exact Qet r i j p u (by simpa using h) h2
theorem Qcz (p:Pl):∀ u∈Zcf p,u.oneCell'=true:=λu hu=>by
 simp[Zcf]at hu;rcases hu with rfl|rfl|rfl<;>rfl
theorem Qch {w:World} {g:Nat} {e:TypeId} {p:Pl} (h:Blk w g e #[.int .i64 p.1,.int .i64 p.2.1,.int .i64 p.2.2]):∀ (j:Nat) (u:Value),(Zcf p)[j]?=some u->w.cell? ((⟨g,0,none⟩:Addr).add j)=some u:=by
 intro j u hu
 match j with
 | 0=>simp[Zcf]at hu;subst hu;exact h.cell 0
 | 1=>simp[Zcf]at hu;subst hu;exact h.cell 1
 | 2=>simp[Zcf]at hu;subst hu;exact h.cell 2
 | j+3=>simp[Zcf]at hu
def OwnPl (w:World) (base:Nat) (v:Value) (ps:List Pl):Prop:=w.ownsRow base 165 3 v ps.length (ps.flatMap Zcf)
theorem OwnPl.at {w:World} {base:Nat} {A:Option Addr} {n c:Nat} {ps:List Pl} (h:OwnPl w base (.slice A n c) ps) (k:Nat) (hk:k<ps.length):
  ∃ ad p,A=some ad/\ps[k]?=some p/\w.cell? (ad.add (k*3))=some (.int .i64 p.1)/\w.cell? ⟨(ad.add (k*3)).block,(ad.add (k*3)).off+1,none⟩=some (.int .i64 p.2.1)/\w.cell? ⟨(ad.add (k*3)).block,(ad.add (k*3)).off+2,none⟩=some (.int .i64 p.2.2):=by
 unfold OwnPl at h;have hx:ps[k]?=some (ps[k]'(by omega)):=Yax _;rcases h.2 with⟨_,h0⟩|⟨g,cap,cur,h1,_⟩
 ·omega
 ·simp only[Value.slice.injEq]at h1
  obtain⟨rfl,rfl,rfl⟩:=h1;have hc:=λj u (hj:(Zcf ps[k])[j]?=some u)=>h.cells (g:=g) rfl (k*3+j) u (Qet ps k j _ u hx hj);have c0:=hc 0 _ rfl;have c1:=hc 1 _ rfl;have c2:=hc 2 _ rfl;rw[Zcy _ _ _ (by omega)]at c1 c2;exact⟨_,_,rfl,hx,c0,c1,c2⟩
def Zhg:Value->Option (DataW Unit×List MemPlace):=λ_=>some (.lit (.bool true),[])
theorem Zgh:Keyed Tryz.prog 3:=int_keyed Tryz.underlying3
theorem p64 {x:Int} (h:Zaj x):(Lit.int .i64 x).wf=true:=by
 obtain⟨h1,h2⟩:=h;simp[Lit.wf,IntKind.min,IntKind.max,IntKind.signed,IntKind.bits];omega
theorem Zmb {x:Int} (h:Zaj x):keyOf Tryz.prog 3 (.int .i64 x)=some (.int .i64 x):=Maps.keyOf_int_mk Tryz.underlying3 (p64 h)
theorem Qd6 (w:World):(zeroValue 154).run Tryz.prog w=.ok (.slice none 0 0) w:=by kernel_rfl
theorem Zzt {c d:Int} (h:Value.int .i64 c=.int .i64 d):c=d:=(Value.int.inj h).2
theorem Zqt {c d:Int} (h:Lit.int .i64 c=.int .i64 d):c=d:=by injection h
def Qdk (b:Bool):DataW Unit:=if b then .lit (.bool true) else .nil
structure KeysD (D:DataW Unit) (f:Int->List Pl):Prop where
 isMap:IsMap D
 at_:∀ t:Int,D.atKey (.int .i64 t) .nil=Qdk (decide (f t≠[]))
 has:∀ t:Int,Maps.has D (.int .i64 t)=decide (f t≠[])
theorem KeysD.nil:KeysD (.map []) λ_=>[]:=⟨isMap_empty,λ_=>rfl,λ_=>rfl⟩
def Zi0 (f:Int->List Pl) (t:Int) (p:Pl):Int->List Pl:=λu=>if u=t then f u++[p] else f u
theorem KeysD.put {D:DataW Unit} {f:Int->List Pl} (h:KeysD D f) (t:Int) (p:Pl):KeysD (D.put (.int .i64 t) (.lit (.bool true))) (Zi0 f t p):=by
 refine⟨h.isMap.put _ _,λu=>?_,λu=>?_⟩
 ·by_cases e:u=t
  ·subst e
   rw[atKey_put_same h.isMap (show WideAt.IsKeyLit (.int .i64 u)from trivial)];simp[Zi0,Qdk]
  ·rw[atKey_put_other (λe2=>e (Zqt e2)),h.at_]
   simp only[Zi0,Yaf e]
 ·by_cases e:u=t
  ·subst e
   rw[has_put_same h.isMap (show WideAt.IsKeyLit (.int .i64 u)from trivial)];simp[Zi0]
  ·rw[has_put_other (λe2=>e (Zqt e2)),h.has]
   simp only[Zi0,Yaf e]
structure Qc2 (w:World) (mb:Nat) (f:Int->List Pl) (G:Nat->Prop) (x:MapEntry):Prop where
 own:∃ t:Int,x.key=.int .i64 t/\OwnPl w (mb+1) x.val (f t)
 inG:∀ g,x.val.ownBlock=some g->G g
def Zvu (u v:Value):Prop:=u.ownBlock=none\/u.ownBlock≠v.ownBlock
structure PMap (w:World) (mb n:Nat) (f:Int->List Pl) (G:Nat->Prop):Prop where
 own:∃ D,w.ownsMap Tryz.prog 3 Zhg mb n D/\KeysD D f
 ent:∀ es clock,w.heap[mb]?=some (.map es clock)->(∀ x∈es.toList,Qc2 w mb f G x)/\∀ x∈es.toList,∀ y∈es.toList,x.key≠y.key->Zvu x.val y.val
 inG:G mb
theorem PMap.lt {w:World} {mb n:Nat} {f:Int->List Pl} {G:Nat->Prop} (h:PMap w mb n f G):mb<w.heap.size:=by
 obtain⟨D,h1,_⟩:=h.own;exact h1.lt
theorem PMap.made (w:World):PMap (w.alloc (.map #[] 0)) w.heap.size 0 (λ_=>[]) λi=>i=w.heap.size where
 own:=⟨_,World.ownsMap_made w _ _ _,KeysD.nil⟩
 ent:=λes clock h=>by
  have h1:(w.alloc (.map #[] 0)).heap[w.heap.size]?=some (.map #[] 0):=Ybl w _;rw[h1]at h;obtain⟨rfl,-⟩:#[]=es/\0=clock:=by simpa using h
  simp
 inG:=rfl
theorem PMap.keep {w w':World} {mb n:Nat} {f:Int->List Pl} {G:Nat->Prop} (h:PMap w mb n f G) (hk:∀ i,G i->w'.heap[i]?=w.heap[i]?):PMap w' mb n f G where
 own:=by
  obtain⟨D,h1,h2⟩:=h.own;exact⟨D,Zap h1 (hk mb h.inG),h2⟩
 ent:=λes clock e=>by
  obtain⟨h1,h2⟩:=h.ent es clock (by rw[<- hk mb h.inG];exact e);refine⟨λx hx=>?_,h2⟩;obtain⟨⟨t,q1,q2⟩,q3⟩:=h1 x hx;exact⟨⟨t,q1,Zab q2 λg hg=>hk g (q3 g hg)⟩,q3⟩
 inG:=h.inG
theorem PMap.lets {w:World} {mb n:Nat} {f g:Int->List Pl} {G G':Nat->Prop} (h:PMap w mb n f G) (e:∀ t,g t=f t) (hG:∀ i,G i->G' i):PMap w mb n g G':=by
 have:g=f:=funext e;subst this;exact⟨h.own,λes clock hb=>by
  obtain⟨h1,h2⟩:=h.ent es clock hb;exact⟨λx hx=>⟨(h1 x hx).own,λj hj=>hG j ((h1 x hx).inG j hj)⟩,h2⟩,hG _ h.inG⟩
theorem PMap.more {w:World} {mb n n':Nat} {f:Int->List Pl} {G:Nat->Prop} (h:PMap w mb n f G) (hn:n<=n'):PMap w mb n' f G:=
 ⟨by obtain⟨D,h1,h2⟩:=h.own;exact⟨D,h1.mono hn,h2⟩,h.ent,h.inG⟩
theorem PMap.step {w:World} {mb n:Nat} {f:Int->List Pl} {G:Nat->Prop} (h:PMap w mb n f G) (hn:n<maxLen) {t:Int} (ht:Zaj t):
  ∃ v,(Instr.lookup 153 (.map (some mb)) (.int .i64 t) false).run Tryz.prog w=.ok v w/\OwnPl w (mb+1) v (f t)/\(∀ g,v.ownBlock=some g->G g/\g≠mb)/\
   ∀ (w1:World) (v':Value) (p:Pl),w.grownBy w1 v.ownBlock->w1.ownsRow (mb+1) 165 3 v' ((f t).length+1) ((f t).flatMap Zcf++Zcf p)->(v'.ownBlock=v.ownBlock\/∃ g,v'.ownBlock=some g/\w.heap.size<=g)->
    ∃ w2,(Instr.mapUpdate 153 (.map (some mb)) (.int .i64 t) v').run Tryz.prog w1=.ok () w2/\PMap w2 mb (n+1) (Zi0 f t p) (λi=>G i\/(w.heap.size<=i/\i<w2.heap.size))/\w1.grownBy w2 (some mb):=by
 obtain⟨D,hM,hD⟩:=h.own;have hM':=hM;obtain⟨es,clock,hb,F,hs,rfl⟩:=hM;obtain⟨hent,hap⟩:=h.ent es clock hb;have hlk:∃ v,(Instr.lookup 153 (.map (some mb)) (.int .i64 t) false).run Tryz.prog w=.ok v w/\OwnPl w (mb+1) v (f t)/\(∀ g,v.ownBlock=some g->G g/\g≠mb)/\∀ x∈es.toList,x.key≠.int .i64 t->Zvu x.val v:=by
  rcases Maps.fit_look false Zgh Tryz.underlying153 (Qd6 _) hb F (Zmb ht)with⟨hrun,_,hat⟩|⟨e0,y,hm0,hk0,hrun,hR,hat,_⟩
  ·have hf:f t=[]:=by
    have h1:=hD.at_ t;rw[hat]at h1;unfold Qdk at h1;split at h1
    ·cases h1
    ·rename_i h2
     simpa using h2
   refine⟨.slice none 0 0,hrun,by rw[hf];exact⟨rfl,.inl ⟨rfl,rfl⟩⟩,λg hg=>(by cases hg),λx hx _=>?_⟩;unfold Zvu;cases x.val.ownBlock with
   | none=>exact .inl rfl
   | some g=>exact .inr (by simp[Value.ownBlock])
  ·obtain⟨⟨u,q1,q2⟩,q3⟩:=hent e0 hm0
   have hu:u=t:=by rw[hk0]at q1;exact(Zzt q1).symm
   subst hu;exact⟨e0.val,hrun,q2,λg hg=>⟨q3 g hg,by have:=(World.ownsRow.lt q2 g hg).1;omega⟩,λx hx hne=>hap x hx e0 hm0 (by rw[hk0];exact hne)⟩
 obtain⟨v,hrun,hov,hvG,hvA⟩:=hlk;refine⟨v,hrun,hov,hvG,λw1 v' p hgr hown hloc=>?_⟩;have hmb:mb<w.heap.size:=h.lt;have hM1:w1.ownsMap Tryz.prog 3 Zhg mb n _:=hM'.kept hgr (λe=>(hvG mb e.symm).2 rfl);obtain⟨w2,hrun2,r1,r2⟩:=hM1.update Zgh Tryz.underlying153 hn (val:=v') (Zmb ht) (show Zhg v'=some (.lit (.bool true),[])from rfl);have hb1:w1.heap[mb]?=some (.map es clock):=(hgr.block mb hmb (λe=>(hvG mb e.symm).2 rfl)).trans hb;obtain⟨es',clock',hb2,hwho⟩:=stored_who Zgh Tryz.underlying153 hb1 F (Nat.lt_of_le_of_lt hs hn) (Zmb ht) hrun2;have hsz1:=hgr.size;have hsz2:=r2.size;have hv'2:w2.ownsRow (mb+1) 165 3 v' ((f t).length+1) ((f t).flatMap Zcf++Zcf p):=hown.kept r2 (by
  cases e:v'.ownBlock with
  | none=>exact .inl rfl
  | some g=>exact .inr (λe2=>by have:=(hown.lt g e).1;cases e2;omega))
 have hold:∀ x∈es.toList,x.key≠.int .i64 t->Qc2 w2 mb (Zi0 f t p) (λi=>G i\/(w.heap.size<=i/\i<w2.heap.size)) x/\Zvu x.val v'/\Zvu v' x.val:=by
  intro x hx hne;obtain⟨⟨u,q1,q2⟩,q3⟩:=hent x hx;have hu:u≠t:=λe=>hne (by rw[q1,e]);have hA:=hvA x hx hne;refine⟨⟨⟨u,q1,?_⟩,λg hg=>.inl (q3 g hg)⟩,?_,?_⟩
  ·unfold Zi0
   rw[Yaf hu];refine Zab q2 λg hg=>?_;have h1:=World.ownsRow.lt q2 g hg;have h2:some g≠v.ownBlock:=by
    rcases hA with h3|h3
    ·rw[h3]at hg;cases hg
    ·rw[hg]at h3;exact h3
   exact(r2.block g (by omega) (λe=>by cases e;omega)).trans (hgr.block g h1.2 h2)
  ·rcases hloc with e|⟨j,e,hj⟩
   ·unfold Zvu;rw[e];exact hA
   ·cases e2:x.val.ownBlock with
    | none=>exact .inl e2
    | some g=>
     refine .inr (λe3=>?_);have h1:=World.ownsRow.lt q2 g e2;rw[e,e2]at e3;cases e3
     omega
  ·rcases hloc with e|⟨j,e,hj⟩
   ·rcases hA with h3|h3
    ·cases e4:v'.ownBlock with
     | none=>exact .inl e4
     | some g=>exact .inr (by rw[h3,e4];simp)
    ·exact .inr (by rw[e];exact λe4=>h3 e4.symm)
   ·refine .inr (λe3=>?_)
    rw[e]at e3;have h1:=World.ownsRow.lt q2 _ e3.symm;omega
 refine⟨w2,hrun2,⟨⟨_,r1,hD.put t p⟩,λes2 clock2 hb3=>?_,.inl h.inG⟩,r2⟩;obtain⟨rfl,rfl⟩:es'=es2/\clock'=clock2:=by rw[hb2]at hb3;simpa using hb3
 have hnew:∀ x∈es'.toList,x.key=.int .i64 t->x.val=v'->Qc2 w2 mb (Zi0 f t p) (λi=>G i\/(w.heap.size<=i/\i<w2.heap.size)) x:=λx _ e1 e2=>by
  refine⟨⟨t,e1,?_⟩,λg hg=>?_⟩
  ·rw[e2]
   unfold Zi0 OwnPl;rw[Yag rfl,Yaq,Ybg,Ybh];exact hv'2
  ·rw[e2]at hg
   have h1:=(hv'2.lt g hg).2;rcases hloc with e|⟨j,e,hj⟩
   ·exact .inl (hvG g (by rw[<- e];exact hg)).1
   ·rw[hg]at e
    cases e
    exact .inr ⟨hj,h1⟩
 refine⟨λx hx=>?_,λx hx y hy hne=>?_⟩
 ·rcases hwho x hx with⟨h1,h2⟩|⟨h1,h2⟩
  ·exact(hold x h1 h2).1
  ·exact hnew x hx h1 h2
 ·rcases hwho x hx with⟨h1,h2⟩|⟨h1,h2⟩<;>rcases hwho y hy with⟨h3,h4⟩|⟨h3,h4⟩
  ·exact hap x h1 y h3 hne
  ·rw[h4];exact(hold x h1 h2).2.1
  ·rw[h2];exact(hold y h3 h4).2.2
  ·exact absurd (h1.trans h3.symm) hne
theorem PMap.keys {w:World} {mb n:Nat} {f:Int->List Pl} {D:DataW Unit} (hM:w.ownsMap Tryz.prog 3 Zhg mb n D) (hD:KeysD D f) {K:List Int} (hK:K.Pairwise (·<·)) (hm:∀ t,t∈K↔f t≠[]) {ss:List Int} (hP:ss.Perm (intKeys D)):ss.mergeSort leI=K:=by
 have hc:CollectedI D (λ_=>false) K:=by
  refine⟨hK.imp λ{a b} h=>by omega,λx=>?_⟩;rw[hD.has,hm];simp
 have hp2:=hc.perm hM Zgh Tryz.underlying3 (λ_=>rfl);rw[mergeSort_of_perm_i hP,<- mergeSort_of_perm_i hp2];exact List.mergeSort_of_pairwise (hK.imp λ{a b} h=>by simp;omega)
def Qc0 (M:World->(Nat->Prop)->Nat->List MDoc->Prop) (w:World) (F:Nat->Prop) (b:Nat) (L:List MDoc) (x:MDoc) (e:Ending) (w':World):Prop:=e=.returned (.int .i64 (mErr L x))/\∃ F',M w' F' b (mAdd L x)/\Kept F w w'/\∀ i,F' i->F i\/w.heap.size<=i
def M0 (w:World) (F:Nat->Prop) (b:Nat) (L:List MDoc):Prop:=
 F b/\(∀ i,F i->i<w.heap.size)/\∃ mb,Blk w b 156 #[.map (some mb),.int .i64 (L.length:Int),.int .i64 (Zjr L+1)]/\PMap w mb (totT L) (plOf L) λi=>F i/\i≠b
theorem M0.keep {w w':World} {F:Nat->Prop} {b:Nat} {L:List MDoc} (h:M0 w F b L) (hk:∀ i,F i->w'.heap[i]?=w.heap[i]?) (hs:w.heap.size<=w'.heap.size):M0 w' F b L:=by
 obtain⟨h1,h2,mb,h3,h4⟩:=h;exact⟨h1,λi hi=>Ya7 (h2 i hi) hs,mb,(hk b h1).trans h3,h4.keep λi hi=>hk i hi.1⟩
theorem Zwd (w:World):Calls Tryz.prog 74 #[] w λe w'=>∃ b F,e=.returned (.pointer (some ⟨b,0,none⟩))/\Below w.heap.size w w'/\M0 w' F b []/\∀ i,F i->w.heap.size<=i:=by
 have hmm:=@run_makeMap Tryz.prog;go_enter Tryz.func74,Tryz.ntmps74;go_wp2;clear hmm;go_ret;refine⟨w.heap.size+1,λi=>i=w.heap.size\/i=w.heap.size+1,rfl,((Ybm _ _).alloc (Yar _) _).alloc (by simp) _,⟨.inr rfl,λi hi=>by simp;omega,w.heap.size,?_,?_⟩,λi hi=>by omega⟩
 ·have h1:=Blk.new (w.alloc (.map #[] 0)) 156 #[.map (some w.heap.size),.int .i64 0,.int .i64 0]
  rw[World.size_alloc]at h1;exact h1
 ·have h1:=PMap.made w
  refine((h1.keep (w':=(w.alloc (.map #[] 0)).alloc (.cells #[.map (some w.heap.size),.int .i64 0,.int .i64 0] 156)) λi hi=>?_).lets (λt=>rfl) (λi hi=>⟨.inl hi,by omega⟩)).more (by simp[totT]);exact Ybn _ _ i (by subst hi;simp)
def Zj8 (x:MDoc) (i:Nat):Int:=if i=0 then -1 else x.S.getD (i-1) 0
theorem Zve (x:MDoc) (i:Nat) (hl:Zdk x i=false):Zjs x i=(decide (x.T.getD i 0<0)||decide (x.S.getD i 0<=Zj8 x i)):=by
 have h1:0<i->0<=x.S.getD (i-1) 0:=λh=>(badAt_iff.1 (badTo_iff.1 hl (i-1) (by omega))).2.1;unfold Zjs Zj8;obtain⟨a,ha⟩:=Ze (x.T.getD i 0);obtain⟨b,hb⟩:=Ze (x.S.getD i 0);obtain⟨c,hc⟩:=Ze (x.S.getD (i-1) 0);rw[<- ha,<- hb,<- hc];rw[<- hc]at h1;clear ha hb hc hl;rw[Bool.eq_iff_iff];simp only[Bool.or_eq_true,Yal,decide_eq_true_eq];split<;>omega
theorem Zqq {w:World} {A B:Option Addr} {n m c d:Nat} {x:MDoc} (hT:IntsIn w A n x.T) (hS:IntsIn w B m x.S):Calls Tryz.prog 126 #[.slice A n c,.slice B m d] w λe w'=>e=.returned (.bool (decide (n=m/\Zdk x n=false)))/\∃ q,w'=w.drewN q:=by
 have HT:=Zh hT;have HS:=Zh hS;have hn63:=hT.1;have hm63:=hS.1;unfold maxLen at hn63 hm63;clear hT hS;go_enter Tryz.func126,Tryz.ntmps126;by_cases hnm:n=m
 ·subst hnm
  have e1:((n:Int) != (n:Int))=false:=by simp
  go_wp2;go_loopw [5,15] (λlv iv wr=>∃ i q:Nat,i<=n/\lv=.int .i64 (Zj8 x i)/\iv=.int .i64 i/\wr=w.drewN q/\Zdk x i=false) (λ_ iv _=>n-(Go.RowKit.intOf iv).toNat);case atStart=>exact⟨0,0,by omega,rfl,rfl,rfl,rfl⟩
  case round=>
   obtain⟨i,q,hi,rfl,rfl,hwr,hbad⟩:=hrel;have HWR:=Zh hwr;have HBAD:=Zh hbad;rcases Yab i n with hlt|hge
   ·have d1:decide ((i:Int)<(n:Int))=true:=by simpa using hlt
    have p0:(0:Int)<=(i:Int):=by omega
    have p1:(i:Int)<(n:Int):=by omega
    have hw5:IntKind.i64.wrap ((i:Int)+1)=(i:Int)+1:=Ybo _ (by omega);obtain⟨pa,y,rfl,hy,cy,-,-⟩:=HT.out.at i hlt;obtain⟨pb,z,rfl,hz,cz,-,-⟩:=HS.out.at i hlt;have HB1:Hid (Zdk x (i+1)=(decide (y<0)||decide (z<=Zj8 x i))):=Zh (by
     have h1:x.T.getD i 0=y:=by rw[Yaw,hy];rfl
     have h2:x.S.getD i 0=z:=by rw[Yaw,hz];rfl
     rw[Zdk,hbad,Zve x i hbad,h1,h2];rfl)
    have HL:Hid (Zj8 x (i+1)=z):=Zh (by
     unfold Zj8;rw[Yaf (by omega),Ybk,Yaw,hz];rfl)
    obtain⟨l,hl⟩:=Ze (Zj8 x i);rw[<- hl]at HB1 ⊢;have cy':wr.cell? (pa.add i)=some (.int .i64 y):=by rw[hwr];exact cy
    have cz':wr.cell? (pb.add i)=some (.int .i64 z):=by rw[hwr];exact cz
    clear hy hz hwr hbad cy cz hl;by_cases h1:y<0
    ·have d2:decide (y<0)=true:=by simpa using h1
     have HE:Hid (Zdk x n=true):=Zh (by
      have h3:Zdk x (i+1)=true:=by rw[HB1.out,d2];rfl
      cases h4:Zdk x n with
      | true=>rfl
      | false=>rw[badTo_iff.2 λj hj=>badTo_iff.1 h4 j (by omega)]at h3;cases h3)
     go_wp2;go_ret;exact⟨by simp[HE.out],q,HWR.out⟩
    ·have d2:decide (y<0)=false:=by simpa using h1
     by_cases h2:z<=l
     ·have d3:decide (z<=l)=true:=by simpa using h2
      have HE:Hid (Zdk x n=true):=Zh (by
       have h3:Zdk x (i+1)=true:=by rw[HB1.out,d2,d3];rfl
       cases h4:Zdk x n with
       | true=>rfl
       | false=>rw[badTo_iff.2 λj hj=>badTo_iff.1 h4 j (by omega)]at h3;cases h3)
      go_wp2;go_ret;exact⟨by simp[HE.out],q,HWR.out⟩
     ·have d3:decide (z<=l)=false:=by simpa using h2
      have HE:Hid (Zdk x (i+1)=false):=Zh (by rw[HB1.out,d2,d3];rfl);go_wp2;go_roundw;case rel=>exact⟨i+1,q,by omega,by rw[HL.out],by go_num,HWR.out,HE.out⟩
      case measure=>simp[Go.RowKit.intOf];omega
   ·obtain rfl:i=n:=by omega
    have hlz:¬ ((i:Int)<(i:Int)):=by omega
    clear hwr hbad;go_wp2;go_ret;exact⟨by simp[HBAD.out],q,HWR.out⟩
 ·have e1:((n:Int) != (m:Int))=true:=by simp;omega
  go_wp2;go_ret;exact⟨by simp[hnm],0,rfl⟩
theorem Zn7 (g k:Nat):(⟨g,0,none⟩:Addr).add k=⟨g,k,none⟩:=by
 unfold Addr.add;split
 ·rename_i h0;rw[h0]
 ·simp
theorem Qcd {w:World} {base:Nat} {e:TypeId} {size:Nat} {pa:Addr} {n c m:Nat} {xs:List Value} (h:w.ownsRow base e size (.slice (some pa) n c) m xs) (k:Nat) (u:Value):(w.setCell (pa.add k) u).ownsRow base e size (.slice (some pa) n c) m (xs.set k u):=by
 refine⟨by rw[Ybp];exact h.1,?_⟩;rcases h.2 with⟨h1,_⟩|⟨g,cap,cur,h1,hb,hblk,hnc,hcm,hcs,hx⟩
 ·cases h1
 ·simp only[Value.slice.injEq,Option.some.injEq]at h1
  obtain⟨rfl,rfl,rfl⟩:=h1;rw[Zn7];have hB:Blk w g e cur:=hblk;refine .inr ⟨g,_,cur.setIfInBounds k u,rfl,hb,hB.set_ k u,hnc,hcm,by simpa using hcs,?_⟩;rw[<- hx,Array.toList_setIfInBounds,List.take_set]
theorem Zmn {w:World} {base:Nat} {e:TypeId} {size:Nat} {pa:Addr} {n c m:Nat} {xs:List Value} (h:w.ownsRow base e size (.slice (some pa) n c) m xs) (k:Nat):w.frozen? (pa.add k)=false:=by
 rcases h.2 with⟨h1,_⟩|⟨g,cap,cur,h1,hb,hblk,_⟩
 ·cases h1
 ·simp only[Value.slice.injEq,Option.some.injEq]at h1
  obtain⟨rfl,rfl,rfl⟩:=h1;rw[Zn7];exact Blk.frozen (t:=e) (cs:=cur) hblk k
theorem Zka {w:World} {base:Nat} {e:TypeId} {size:Nat} {pa:Addr} {n c m:Nat} {xs:List Value} (h:w.ownsRow base e size (.slice (some pa) n c) m xs) {k:Nat} {u:Value} (hk:xs[k]?=some u):w.cell? (pa.add k)=some u:=by
 have h2:=h;rcases h.2 with⟨h1,_⟩|⟨g,cap,cur,h1,hb,hblk,_⟩
 ·cases h1
 ·simp only[Value.slice.injEq,Option.some.injEq]at h1
  obtain⟨rfl,rfl,rfl⟩:=h1;exact h2.cells (g:=g) rfl k u hk
theorem Zg8:(64:TypeId)≠62:=by decide
structure PostB (w:World) (base:Nat) (v vs:Value) (P:List Pst) (x:Pst):Prop where
 fit:Zaj x.1/\∀ s∈x.2,Zaj s.1/\Zaj s.2
 spots:w.ownsRow base 64 2 vs x.2.length (x.2.flatMap Zat)
 row:∃ R:List (Int×Value),R.length=P.length/\w.ownsRow base 62 2 v (P.length+1) (R.flatMap Zan++Zan (x.1,vs))/\
  ∀ (i:Nat) (p:Int×Value) (y:Pst),R[i]?=some p->P[i]?=some y->PostAt w y p λi=>base<=i/\v.ownBlock≠some i/\vs.ownBlock≠some i
section
variable {w w':World} {base:Nat} {v vs v' vs':Value} {P L:List Pst} {x:Pst}
theorem PostB.keep (h:PostB w base v vs P x) (hb:∀ i,base<=i->i<w.heap.size->w'.heap[i]?=w.heap[i]?) (hs:w.heap.size<=w'.heap.size):PostB w' base v vs P x:=by
 obtain⟨R,h1,h2,h3⟩:=h.row;exact⟨h.fit,Zab h.spots λg hg=>hb g (h.spots.lt g hg).1 (h.spots.lt g hg).2,R,h1,Zab h2 λg hg=>hb g (h2.lt g hg).1 (h2.lt g hg).2,
  λi p y e1 e2=>(h3 i p y e1 e2).mono (λj hj hf=>⟨hb j hf.1 hj,hf⟩) hs⟩
theorem PostB.below (h:PostB w base v vs P x) (hb:Below w.heap.size w w'):PostB w' base v vs P x:=h.keep (λi _ hi=>hb.block i hi) hb.size
theorem PostB.apart (h:PostB w base v vs P x):∀ g,vs.ownBlock=some g->v.ownBlock≠some g:=by
 obtain⟨R,h1,h2,h3⟩:=h.row;exact Za7 h.spots h2 Zg8
theorem PostB.posts (h:PostB w base v vs P x) (h63:x.2.length<=maxLen):PostsO w base v (P++[x]):=by
 have hap:=h.apart;obtain⟨R,h1,h2,h3⟩:=h.row;refine⟨R++[(x.1,vs)],by simp[h1],by simpa using h2,λi p y e1 e2=>?_⟩;rcases Yab i P.length with hi|hi
 ·rw[Yba (by omega)]at e1 e2
  exact(h3 i p y e1 e2).mono (λj _ hf=>⟨rfl,hf.1,hf.2.1⟩) (Yar _)
 ·have hlt:=(Ybb.1 e2).1
  simp at hlt;obtain rfl:i=P.length:=by omega
  rw[Ybc (by omega)]at e1 e2;simp[h1]at e1 e2;subst e1 e2;have hsp:=h.spots;obtain⟨A,c,rfl⟩:=Zac hsp;refine⟨rfl,h.fit.1,A,c,rfl,Zbi hsp,PairsIn.ownTwo hsp rfl h63 h.fit.2,λad e _=>?_⟩;have:=hsp.lt ad.block (by rw[e];rfl)
  exact⟨this.2,this.1,hap _ (by rw[e];rfl)⟩
theorem PostB.of_push {R:List (Int×Value)} {d:Int} (hd:Zaj d) (h0:R.length=L.length) (h2:∀ (i:Nat) (p:Int×Value) (x:Pst),R[i]?=some p->L[i]?=some x->PostAt w x p λi=>base<=i/\v.ownBlock≠some i)
  (ho:w'.ownsRow base 62 2 v' (L.length+1) (R.flatMap Zan++Zan (d,.slice none 0 0))) (hg:w.grownBy w' v.ownBlock) (hloc:v'.ownBlock=v.ownBlock\/v'.ownBlock=some w.heap.size):PostB w' base v' (.slice none 0 0) L (d,[]):=by
 refine⟨⟨hd,by simp⟩,⟨rfl,.inl ⟨rfl,rfl⟩⟩,R,h0,ho,λi q y e1 e2=>(h2 i q y e1 e2).mono (λi hi hf=>⟨hg.block i hi (λe=>hf.2 e.symm),hf.1,?_,by simp[Value.ownBlock]⟩) hg.size⟩;rcases hloc with e|e
 ·rw[e];exact hf.2
 ·rw[e]
  intro e2;have:=Ya9 e2
  omega
theorem PostB.at (h:PostB w base v vs P x):∃ pa c,v=.slice (some pa) (P.length+1) c/\w.cell? (pa.add (P.length*2))=some (.int .i64 x.1)/\w.cell? ⟨(pa.add (P.length*2)).block,(pa.add (P.length*2)).off+1,none⟩=some vs/\w.frozen? ⟨(pa.add (P.length*2)).block,(pa.add (P.length*2)).off+1,none⟩=false:=by
 obtain⟨R,h1,h2,h3⟩:=h.row;obtain⟨A,c,rfl⟩:=Zac h2;cases A with
 | none=>
  rcases h2.2 with⟨_,h4⟩|⟨g,cap,cur,h4,_⟩
  ·omega
  ·cases h4
 | some pa=>
  have hl:(R.flatMap Zan).length=P.length*2:=by rw[Zy9,h1]
  have c0:=Zka h2 (k:=P.length*2) (u:=.int .i64 x.1) (by rw[Ybc (by omega),hl,Ybq];rfl);have c1:=Zka h2 (k:=P.length*2+1) (u:=vs) (by rw[Ybc (by omega),hl,Ybr];rfl);have f1:=Zmn h2 (P.length*2+1);rw[Zcy _ _ _ (by omega)]at c1 f1;exact⟨pa,c,rfl,c0,c1,f1⟩
theorem PostB.spot {w1:World} {pa:Addr} {n c:Nat} {s:Int×Int} (h:PostB w base (.slice (some pa) n c) vs P x) (hg:w.grownBy w1 vs.ownBlock) (ho:w1.ownsRow base 64 2 vs' (x.2.length+1) (x.2.flatMap Zat++Zat s))
  (hl:vs'.ownBlock=vs.ownBlock\/vs'.ownBlock=some w.heap.size) (hs:Zaj s.1/\Zaj s.2):
  w1.cell? ⟨(pa.add (P.length*2)).block,(pa.add (P.length*2)).off+1,none⟩=some vs/\w1.frozen? ⟨(pa.add (P.length*2)).block,(pa.add (P.length*2)).off+1,none⟩=false/\base<=(pa.add (P.length*2)).block/\
  PostB (w1.setCell ⟨(pa.add (P.length*2)).block,(pa.add (P.length*2)).off+1,none⟩ vs') base (.slice (some pa) n c) vs' P (x.1,x.2++[s]):=by
 have hap:=h.apart;obtain⟨R,h1,h2,h3⟩:=h.row;have hpb:(pa.add (P.length*2)).block=pa.block:=by unfold Addr.add;split<;>rfl
 have hvb:(Value.slice (some pa) n c).ownBlock=some pa.block:=rfl;have hlt:=h2.lt pa.block hvb;have hl2:(R.flatMap Zan).length=P.length*2:=by rw[Zy9,h1]
 have hr1:w1.ownsRow base 62 2 (.slice (some pa) n c) (P.length+1) (R.flatMap Zan++Zan (x.1,vs)):=h2.kept hg (.inr (λe=>hap pa.block (by rw[<- e,hvb]) hvb));have c1:=Zka hr1 (k:=P.length*2+1) (u:=vs) (by rw[Ybc (by omega),hl2,Ybr];rfl);have f1:=Zmn hr1 (P.length*2+1);have hs1:=Qcd hr1 (P.length*2+1) vs';have hne:∀ g,vs'.ownBlock=some g->g≠pa.block:=λg hgv e=>by
  subst e;exact Za7 ho hr1 Zg8 pa.block hgv hvb
 have hset:(R.flatMap Zan++Zan (x.1,vs)).set (P.length*2+1) vs'=R.flatMap Zan++Zan (x.1,vs'):=by
  rw[List.set_append_right _ _ (by omega),hl2,Ybr];rfl
 rw[hset]at hs1;rw[Zcy _ _ _ (by omega)]at c1 f1 hs1;refine⟨c1,f1,by rw[hpb];exact hlt.1,⟨⟨h.fit.1,λy hy=>?_⟩,?_,R,h1,hs1,λi p y e1 e2=>?_⟩⟩
 ·rcases Ybj.1 hy with hy|hy
  ·exact h.fit.2 y hy
  ·rw[Ybi.1 hy];exact hs
 ·rw[Yaq,Ybg,Ybh]
  exact Zab ho λg hgv=>Zad _ _ _ (by rw[hpb];exact hne g hgv)
 ·refine(h3 i p y e1 e2).mono (λj hj hf=>⟨?_,hf.1,hf.2.1,?_⟩) (by rw[Zai];exact hg.size)
  ·refine(Zad _ _ _ ?_).trans (hg.block j hj (λe=>hf.2.2 e.symm))
   rw[hpb];intro e;exact hf.2.1 (by rw[hvb,e])
  ·rcases hl with e|e
   ·rw[e];exact hf.2.2
   ·rw[e]
    intro e2;have:=Ya9 e2
    omega
end
theorem Zg9 (w:World) (A:Option Addr) (n c:Nat) (l:List Int) (hl:IntsIn w A n l) (hn:n<=1099511627776):
  Calls Tryz.prog 133 #[.slice A n c] w (Zxz w l):=by
 have HL:=Zh hl;have HLN:=Zh hl.len;have HLX:=Zh (λx hx=>(hl.2.2.1 x hx).2);clear hl;go_enter Tryz.func133,Tryz.ntmps133;go_wp2_with fail;refine(Zff w n (by omega)).mono ?_;rintro e w1 ⟨v1,rfl,hO,hB⟩;have HO:=Zh hO;have HB:=Zh hB;clear hO hB;go_wp2;go_loopw [4,5,14] (λv p i wr=>∃ (k:Nat) (la:Int),k<=n/\i=.int .i64 k/\p=.int .i64 la/\la=(l.take k).getLastD (-1)/\la<=9223372036854775807/\Za4 (-1) (l.take k)=true/\Below w.heap.size w wr/\wr.ownsRow w.heap.size 5 1 v (Zem l k).length ((Zem l k).map byteV)) (λ_ _ i _=>n-(intOf i).toNat);case atStart=>exact⟨0,-1,by omega,rfl,rfl,rfl,by omega,rfl,HB.out,by have:=HO.out;rw[<- HLN.out]at this;simpa[Zem,gaps,Zbl]using this⟩
 case round=>
  clear HO HB;obtain⟨k,la,hk,rfl,rfl,hla,hla2,hr,hB,hO⟩:=hrel;have HR:=Zh hr;have HO:=Zh hO;have HB:=Zh hB;have HLA:=Zh hla;clear hr hO hB hla;rcases Yab k n with hlt|hge
  ·have hlt':(k:Int)<(n:Int):=by omega
   obtain⟨Av,cv,hv⟩:=Zac HO.out;subst hv;obtain⟨ad,x,rfl,hx,hcx,hx1,hx2⟩:=(HL.out.below HB.out).at k hlt;have HX:=Zh hx;clear hx;have hul:=Zny (by rw[HLN.out];exact hk) HR.out HLX.out (by rw[HLN.out];omega);have hlast:=Ziz _ _ HR.out;rw[<- HLA.out]at hlast;by_cases hle:x<=la
   ·have hbad:Za4 (-1) l=false:=by
     cases h:Za4 (-1) l with
     | false=>rfl
     | true=>
      have h1:=Zgb (l.take (k+1)) (l.drop (k+1)) (-1) (by rw[Yau];exact h);rw[Zcj HX.out,Zds,<- HLA.out]at h1;simp only[Yal,decide_eq_true_eq]at h1;omega
    have HBAD:=Zh hbad;clear hbad hul;go_wp2;go_ret2;exact⟨_,_,rfl,HB.out,.inr ⟨HBAD.out,rfl,rfl⟩⟩
   ·have hs1:IntKind.i64.wrap (la+1)=la+1:=Ybo _ (by omega)
    have hs2:IntKind.i64.wrap (x-(la+1))=x-(la+1):=Ybo _ (by omega);obtain⟨g,hg⟩:∃ g:Nat,x-(la+1)=(g:Int):=⟨(x-(la+1)).toNat,by omega⟩
    have hwr:IntKind.u64.wrap (x-(la+1))=(g:Int):=by rw[hg,Yby];omega
    have hgm:g<9223372036854775808:=by omega
    have hG:(x-(l.take k).getLastD (-1)-1).toNat=g:=by rw[<- HLA.out];omega
    have hLT:decide ((l.take k).getLastD (-1)<x)=true:=by rw[<- HLA.out];simp;omega
    have HG:=Zh hG;have HLT:=Zh hLT;have hyl:(Zem l k).length<=70368744177664:=by omega
    have hup:Zem l (k+1)=Zem l k++putL g:=by
     unfold Zem;rw[Zcj HX.out,Zkz,Zfz,HG.out,Yao]
    have HUP:=Zh hup;clear hG hLT hg hup hul;go_wp2_with fail;refine(Ztn wr w.heap.size HB.out.size (.slice Av (Zem l k).length cv) (Zem l k) hyl HO.out g (by omega)).mono ?_;rintro e w2 ⟨v2,rfl,hO2,hB2⟩;have HO2:=Zh hO2;have HB2:=Zh (HB.out.trans hB2);clear hO2 hB2;go_wp2;go_roundw;case rel=>
     refine⟨k+1,x,by omega,by go_num,rfl,?_,by omega,?_,HB2.out,?_⟩
     ·rw[Zcj HX.out,List.getLastD_concat]
     ·rw[Zcj HX.out,Zds,HR.out,HLT.out]
      rfl
     ·rw[HUP.out]
      exact HO2.out
    case measure=>simp[intOf];omega
  ·obtain rfl:k=n:=by omega
   have hlz:¬ ((k:Int)<(k:Int)):=by omega
   have htk:l.take k=l:=Yav (by rw[HLN.out];exact Yar _);go_wp2;go_ret2;refine⟨_,_,rfl,HB.out,.inl ⟨?_,rfl,?_⟩⟩
   ·rw[<- htk];exact HR.out
   ·have:=HO.out
    unfold Zem at this;rw[htk]at this;exact this
end
end Go.Proofs.YthcjikpabpgpfaaGreat
