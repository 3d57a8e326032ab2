import Derived.Test.YthcjikpabpgpfaaGreatZp0
import Derived.Test.YthcjikpabpgpfaaGreatProg
import Derived.WalkKit
import Derived.WalkSpells
import Derived.WalkLawsBesides
import Derived.Laws.EntriesVeiled
import Derived.Lib.Hide
import Derived.Maps.OwnSet
import Derived.Maps.Ext
import Derived.Sort.KeysCollected
import Derived.Deep.Draws
import Derived.Deep.AppendLies
import Derived.Maps.AppendAt
import Derived.Laws.Rows
import Derived.StringKeys
import Derived.RegionTactic
import Derived.Deep.RegionHeld3
import Derived.Deep.RegionLaw
import Derived.ProofKit
import Derived.OpenShut
import Derived.ChangeOld
import Derived.SizedLaws
import Derived.Deep.Slices
import Derived.Deep.Fields
import Derived.Lib.SmallJoins
import Derived.Laws.OwnMore
set_option linter.unusedSimpArgs false
set_option maxHeartbeats 16000000
set_option maxRecDepth 100000
namespace Go.Proofs.YthcjikpabpgpfaaGreat
section
open Go.RowKit Go.Maps
structure Kept (F:Nat->Prop) (w w':World):Prop where
 os:w'.os=w.os
 tape:w'.tape=w.tape
 output:w'.output=w.output
 size:w.heap.size<=w'.heap.size
 block:∀ k,k<w.heap.size->¬ F k->w'.heap[k]?=w.heap[k]?
theorem Kept.refl (F:Nat->Prop) (w:World):Kept F w w:=⟨rfl,rfl,rfl,Yar _,λ_ _ _=>rfl⟩
theorem Kept.trans {F F':Nat->Prop} {a b c:World} (h:Kept F a b) (k:Kept F' b c) (hF:∀ i,i<a.heap.size->F' i->F i):Kept F a c:=
 ⟨k.os.trans h.os,k.tape.trans h.tape,k.output.trans h.output,Ybu h.size k.size,
  λi hi hn=>(k.block i (Ya7 hi h.size) (λh'=>hn (hF i hi h'))).trans (h.block i hi hn)⟩
theorem Kept.mono {F F':Nat->Prop} {w w':World} (h:Kept F w w') (hF:∀ i,F i->F' i):Kept F' w w':=
 ⟨h.os,h.tape,h.output,h.size,λk hk hn=>h.block k hk (λhf=>hn (hF k hf))⟩
theorem Kept.alloc {F:Nat->Prop} {a w:World} (h:Kept F a w) (o:Obj):Kept F a (w.alloc o):=
 ⟨h.os,h.tape,h.output,Ybu h.size (by simp),λk hk hn=>(Ybn w o k (Ya7 hk h.size)).trans (h.block k hk hn)⟩
theorem Kept.drew {F:Nat->Prop} {a w:World} (h:Kept F a w):Kept F a w.drew:=⟨h.os,h.tape,h.output,h.size,h.block⟩
theorem Kept.drewN {F:Nat->Prop} {a w:World} (h:Kept F a w) (n:Nat):Kept F a (w.drewN n):=⟨h.os,h.tape,h.output,h.size,h.block⟩
theorem Kept.setCell {F:Nat->Prop} {a w:World} (h:Kept F a w) {p:Addr} (hp:F p.block\/a.heap.size<=p.block) (u:Value):Kept F a (w.setCell p u):=
 ⟨h.os,h.tape,h.output,by simpa[World.setCell]using h.size,λk hk hn=>(Yb5 w p u k (by
  rintro rfl;rcases hp with hp|hp
  ·exact hn hp
  ·omega)).trans (h.block k hk hn)⟩
theorem Kept.below {F:Nat->Prop} {a w:World} (h:Below a.heap.size a w):Kept F a w:=⟨h.os,h.tape,h.output,h.size,λk hk _=>h.block k hk⟩
theorem Kept.toBelow {F:Nat->Prop} {a w:World} {B:Nat} (h:Kept F a w) (hB:B<=a.heap.size) (hF:∀ i,F i->B<=i):Below B a w:=
 ⟨h.os,h.tape,h.output,h.size,λk hk=>h.block k (Ya7 hk hB) (λhf=>by have:=hF k hf;omega)⟩
theorem Kept.grown {F:Nat->Prop} {a w w':World} {row:Option Nat} (h:Kept F a w) (hg:w.grownBy w' row) (hr:∀ k,row=some k->F k\/a.heap.size<=k):Kept F a w':=
 ⟨hg.os.trans h.os,hg.tape.trans h.tape,hg.output.trans h.output,Ybu h.size hg.size,
  λk hk hn=>(hg.block k (Ya7 hk h.size) (λe=>by
   rcases hr k e.symm with h1|h1
   ·exact hn h1
   ·omega)).trans (h.block k hk hn)⟩
theorem Kept.cell {F:Nat->Prop} {w w':World} (h:Kept F w w') {p:Addr} (hp:p.block<w.heap.size) (hn:¬ F p.block):w'.cell? p=w.cell? p:=Yb4 (h.block p.block hp hn)
def Blk (w:World) (g:Nat) (t:TypeId) (cs:Array Value):Prop:=w.heap[g]?=some (.cells cs t (0,0))
section
variable {w w':World} {g:Nat} {t:TypeId} {cs:Array Value}
theorem Blk.lt (h:Blk w g t cs):g<w.heap.size:=by
 rcases Yab g w.heap.size with hlt|hge
 ·exact hlt
 ·unfold Blk at h;rw[Array.getElem?_eq_none hge]at h;cases h
theorem Blk.cell (h:Blk w g t cs) (i:Nat):w.cell? ⟨g,i,none⟩=cs[i]?:=cell_of_row w g i cs t (0,0) h
theorem Blk.frozen (h:Blk w g t cs) (i:Nat):w.frozen? ⟨g,i,none⟩=false:=by
 unfold Blk at h;simp[World.frozen?,h]
theorem Blk.new (w:World) (t:TypeId) (cs:Array Value):Blk (w.alloc (.cells cs t)) w.heap.size t cs:=Ybl w _
theorem Blk.drew (h:Blk w g t cs):Blk w.drew g t cs:=h
theorem Blk.drewN (h:Blk w g t cs) (n:Nat):Blk (w.drewN n) g t cs:=h
theorem Blk.alloc (h:Blk w g t cs) (o:Obj):Blk (w.alloc o) g t cs:=(Ybn w o g h.lt).trans h
theorem Blk.set_ (h:Blk w g t cs) (i:Nat) (u:Value):Blk (w.setCell ⟨g,i,none⟩ u) g t (cs.setIfInBounds i u):=by
 unfold Blk at h ⊢;simp[World.setCell,Array.getElem?_modify,h]
theorem Blk.far (h:Blk w g t cs) {p:Addr} (hp:g≠p.block) (u:Value):Blk (w.setCell p u) g t cs:=(Yb5 w p u g hp).trans h
theorem Blk.below {B:Nat} (h:Blk w g t cs) (hb:Below B w w') (hg:g<B):Blk w' g t cs:=(hb.block g hg).trans h
theorem Blk.kept {F:Nat->Prop} (h:Blk w g t cs) (hk:Kept F w w') (hg:¬ F g):Blk w' g t cs:=(hk.block g h.lt hg).trans h
theorem Blk.grown {row:Option Nat} (h:Blk w g t cs) (hb:w.grownBy w' row) (hg:some g≠row):Blk w' g t cs:=(hb.block g h.lt hg).trans h
theorem Blk.ne_ {g':Nat} {t':TypeId} {cs':Array Value} (h:Blk w g t cs) (h':Blk w g' t' cs') (hne:t≠t'):g≠g':=by
 rintro rfl;unfold Blk at h h';rw[h]at h';injection h' with h';injection h' with _ ht;exact hne ht
theorem Blk.ne_map {H:Type} {P:Program} {k:TypeId} {R:Value->Option (DataW H×List MemPlace)} {m n:Nat} {D:DataW H} (h:Blk w g t cs) (h':w.ownsMap P k R m n D):g≠m:=by
 rintro rfl;obtain⟨es,clock,hb,_⟩:=h';unfold Blk at h;rw[h]at hb;cases hb
theorem Zah {base:Nat} {e:TypeId} {size n:Nat} {v:Value} {xs:List Value} (h:w.ownsRow base e size v n xs) (hg:Blk w g t cs) (hne:e≠t):v.ownBlock≠some g:=by
 rcases h.2 with⟨rfl,_⟩|⟨g',cap,cur,rfl,_,hh,_⟩
 ·simp[Value.ownBlock]
 ·intro he
  have:g'=g:=by simpa[Value.ownBlock]using he
  subst this;exact Blk.ne_ (t:=e) hh hg hne rfl
theorem Za6 {H:Type} {P:Program} {k:TypeId} {R:Value->Option (DataW H×List MemPlace)} {m n':Nat} {D:DataW H} {base:Nat} {e:TypeId} {size n:Nat} {v:Value} {xs:List Value} (h:w.ownsRow base e size v n xs) (h':w.ownsMap P k R m n' D):v.ownBlock≠some m:=by
 rcases h.2 with⟨rfl,_⟩|⟨g',cap,cur,rfl,_,hh,_⟩
 ·simp[Value.ownBlock]
 ·intro he
  have:g'=m:=by simpa[Value.ownBlock]using he
  subst this;exact Blk.ne_map (t:=e) hh h' rfl
end
theorem Za7 {w:World} {base base':Nat} {e e':TypeId} {size size' n n':Nat} {v v':Value} {xs xs':List Value} (h:w.ownsRow base e size v n xs) (h':w.ownsRow base' e' size' v' n' xs') (hne:e≠e'):∀ g,v.ownBlock=some g->v'.ownBlock≠some g:=by
 intro g hg;rcases h.2 with⟨rfl,_⟩|⟨k,cap,cur,rfl,_,hh,_⟩
 ·simp[Value.ownBlock]at hg
 ·have e1:k=g:=by simpa[Value.ownBlock]using hg
  subst e1;exact Zah h' hh (λe2=>hne e2.symm)
theorem Zab {w w':World} {base:Nat} {e:TypeId} {size n:Nat} {v:Value} {xs:List Value} (h:w.ownsRow base e size v n xs) (hb:∀ g,v.ownBlock=some g->w'.heap[g]?=w.heap[g]?):w'.ownsRow base e size v n xs:=by
 refine⟨h.1,?_⟩;rcases h.2 with h1|⟨g,cap,cur,rfl,h1,h2,h3⟩
 ·exact .inl h1
 ·exact .inr ⟨g,cap,cur,rfl,h1,(hb g rfl).trans h2,h3⟩
theorem Zf2 {F:Nat->Prop} {w w':World} {base:Nat} {e:TypeId} {size n:Nat} {v:Value} {xs:List Value} (h:w.ownsRow base e size v n xs) (hk:Kept F w w') (hn:∀ g,v.ownBlock=some g->¬ F g):w'.ownsRow base e size v n xs:=
 Zab h λg hg=>hk.block g (h.lt g hg).2 (hn g hg)
theorem Zap {H:Type} {P:Program} {k:TypeId} {R:Value->Option (DataW H×List MemPlace)} {w w':World} {b n:Nat} {D:DataW H} (h:w.ownsMap P k R b n D) (hb:w'.heap[b]?=w.heap[b]?):w'.ownsMap P k R b n D:=by
 obtain⟨es,clock,h1,r⟩:=h;exact⟨es,clock,hb.trans h1,r⟩
end
section
open Go.RowKit Go.Maps Go.WideMaps Go.ChangeShapes Go.WideShapes Go.ChangeAt Go.Deep
abbrev Nm:=List UInt8
def byteV (c:UInt8):Value:=.int .u8 c.toNat
def at0 (b:Nat):Value:=.pointer (some ⟨b,0,none⟩)
theorem Zbm (l:Nm):∀ u∈l.map byteV,u.oneCell'=true:=by
 intro u hu;obtain⟨x,_,rfl⟩:=Yaz.1 hu;rfl
theorem Zad (w:World) (p:Addr) (u:Value) {i:Nat} (h:i≠p.block):(w.setCell p u).heap[i]?=w.heap[i]?:=Yb5 w p u i h
theorem Zai (w:World) (p:Addr) (u:Value):(w.setCell p u).heap.size=w.heap.size:=by simp[World.setCell]
theorem Zac {w:World} {base:Nat} {e:TypeId} {size n:Nat} {v:Value} {xs:List Value} (h:w.ownsRow base e size v n xs):∃ A c,v=.slice A n c:=by
 rcases h.2 with⟨rfl,rfl⟩|⟨g,cap,cur,rfl,_⟩
 ·exact⟨_,_,rfl⟩
 ·exact⟨_,_,rfl⟩
structure Src (w:World) (A:Option Addr) (n:Nat) (xs:List Value):Prop where
 len:xs.length=n
 cells:∀ ad,A=some ad->∀ j u,xs[j]?=some u->w.cell? (ad.add j)=some u
 nil:A=none->n=0
theorem Src.keep {w w':World} {A:Option Addr} {n:Nat} {xs:List Value} (h:Src w A n xs) (hb:∀ ad,A=some ad->0<n->w'.heap[ad.block]?=w.heap[ad.block]?):Src w' A n xs:=
 ⟨h.len,λad e j u hu=>by
  have hc:=h.cells ad e j u hu;have hbl:(ad.add j).block=ad.block:=by unfold Addr.add;split<;>rfl
  have hn:0<n:=by
   have:=(Ybb.1 hu).1
   have:=h.len
   omega
  rw[Yb4 (w:=w) (by rw[hbl];exact hb ad e hn)];exact hc,h.nil⟩
theorem Zma {P:Program} (w:World) (base:Nat) (t ty e:TypeId) (i:TypeInfo) (z:Value) (bytes:Nat) (ht:P.underlying t=some (.slice e)) (hi:P.info? e=some i) (hz:i.zero=some z)
  (hsize:i.size=1) (hby:i.bytes=bytes) (hzs:z.cells.size=1) (v:Value) (n:Nat) (xs:List Value) (hown:w.ownsRow base e 1 v n xs)
  (A:Option Addr) (m c:Nat) (news:List Value) (hr:Src w A m news) (h1:∀ u∈news,u.oneCell'=true)
  (h63:n+m<=maxLen) (hbytes:(n+m)*bytes<=140737488355328) (hbase:base<=w.heap.size):
  ∃ v' w',(Builtin.append_ #[t,t] ty #[v,.slice A m c]).run P w=.ok v' w'/\w'.ownsRow base e 1 v' (n+m) (xs++news)/\w.grownBy w' v.ownBlock/\
   (v'.ownBlock=v.ownBlock\/v'.ownBlock=some w.heap.size):=by
 cases A with
 | none=>
  have hm:=hr.nil rfl;subst hm;have hn:news=[]:=Ya0 hr.len;subst hn;refine⟨v,w,?_,by simpa using hown,World.grownBy.refl w _,.inl rfl⟩;rcases hown.2 with⟨rfl,rfl⟩|⟨g,cap,cur,rfl,_,_,hnc,_⟩
  ·simp[Builtin.append_,run_underlying ht,sizeOf,typeInfo,hi,Builtin.lenOf,Builtin.firstCells]
  ·simp[Builtin.append_,run_underlying ht,sizeOf,typeInfo,hi,Builtin.lenOf,Builtin.firstCells,hnc,storeCells]
 | some ad=>
  obtain⟨v',w',hrun,h2,h3,_,h5⟩:=run_append_own_at (P:=P) w base t ty e i z 1 bytes ht hi hz hsize hby hzs (by decide) v n xs hown ad m c news (by rw[hr.len];omega) (hr.cells ad rfl) h1 h63 hbytes hbase;exact⟨v',w',hrun,h2,h3,h5⟩
theorem Za1 {P:Program} (w:World) {ops:Array Oper} {o:Oper} {a:Act} {K:Act->World->Prop} {Q:Exit->Act->World->Prop} {E:Prop} (hgd:o.guard=none) (s x:Operand) (t:TypeId)
  (ho:o.op=.call { callee:=.builtin .append,args:=#[s,x],argTypes:=#[t,t] })
  (base:Nat) (e:TypeId) (i:TypeInfo) (z:Value) (bytes:Nat) (ht:P.underlying t=some (.slice e)) (hi:P.info? e=some i) (hz:i.zero=some z)
  (hsize:i.size=1) (hby:i.bytes=bytes) (hzs:z.cells.size=1)
  (v:Value) (n:Nat) (xs:List Value) (hs:a.eval s=v) (hown:w.ownsRow base e 1 v n xs)
  (A:Option Addr) (m c:Nat) (news:List Value) (hx:a.eval x=.slice A m c) (hr:Src w A m news) (h1:∀ u∈news,u.oneCell'=true)
  (h63:n+m<=maxLen) (hbytes:(n+m)*bytes<=140737488355328) (hbase:base<=w.heap.size)
  (h:∀ v' w',w'.ownsRow base e 1 v' (n+m) (xs++news)->w.grownBy w' v.ownBlock->(v'.ownBlock=v.ownBlock\/v'.ownBlock=some w.heap.size)->K (a.put o.dst v') w'):
  if Region.wanted o (yielded ops a.tmps)=true then Oper.wp P o a w K Q else E:=by
 have hw:Region.wanted o (yielded ops a.tmps)=true:=by simp[Region.wanted,hgd]
 rw[Yag hw];obtain⟨v',w',hrun,h2,h3,h4⟩:=Zma (P:=P) w base t o.type e i z bytes ht hi hz hsize hby hzs v n xs hown A m c news hr h1 h63 hbytes hbase;unfold Oper.wp execOp;simp only[ho,resolve,invoke,builtin,Sem.run_bind,Sem.run_pure,Result.andThen_ok,List.map_toArray,Ya2,List.map_nil,hs,hx,hrun];exact h v' w' h2 h3 h4
theorem Zag {W w':World} (hb:Below W.heap.size W w') {a:Addr} {v:Value} (h:W.cell? a=some v):w'.cell? a=some v:=(hb.cell (Ycb W a h)).trans h
theorem Qe3 {P:Program} {c:Code} {Q:Exit->Act->World->Prop} {a:Act} {w:World} (h:∀ W,W=w->c.wp P Q a W):c.wp P Q a w:=h w rfl
theorem Zae {P:Program} (w:World) {ops:Array Oper} {rest:List Oper} {o:Oper} {a:Act} {Q:Exit->Act->World->Prop} (hgd:o.guard=none) (s x:Operand) (t:TypeId)
  (ho:o.op=.call { callee:=.builtin .append,args:=#[s,x],argTypes:=#[t,t] })
  (base:Nat) (e:TypeId) (i:TypeInfo) (z:Value) (bytes:Nat) (ht:P.underlying t=some (.slice e)) (hi:P.info? e=some i) (hz:i.zero=some z)
  (hsize:i.size=1) (hby:i.bytes=bytes) (hzs:z.cells.size=1)
  (v:Value) (n:Nat) (xs:List Value) (hs:a.eval s=v) (hown:w.ownsRow base e 1 v n xs)
  (A:Option Addr) (m c:Nat) (news:List Value) (hx:a.eval x=.slice A m c) (hr:Src w A m news) (h1:∀ u∈news,u.oneCell'=true)
  (h63:n+m<=maxLen) (hbytes:(n+m)*bytes<=140737488355328) (hbase:base<=w.heap.size)
  (h:∀ v' w',w'.ownsRow base e 1 v' (n+m) (xs++news)->w.grownBy w' v.ownBlock->(v'.ownBlock=v.ownBlock\/v'.ownBlock=some w.heap.size)->wpList P ops Q rest (a.put o.dst v') w'):wpList P ops Q (o :: rest) a w:=by
 refine wpList_plain hgd λK hK=>?_;obtain⟨v',w',hrun,h2,h3,h4⟩:=Zma (P:=P) w base t o.type e i z bytes ht hi hz hsize hby hzs v n xs hown A m c news hr h1 h63 hbytes hbase;unfold Oper.wp execOp;simp only[ho,resolve,invoke,builtin,Sem.run_bind,Sem.run_pure,Result.andThen_ok,List.map_toArray,Ya2,List.map_nil,hs,hx,hrun];exact hK _ _ (h v' w' h2 h3 h4)
theorem Zbj {w:World} {A:Option Addr} {n c base:Nat} {e:TypeId} {xs:List Value} (h:w.ownsRow base e 1 (.slice A n c) n xs):Src w A n xs:=by
 refine⟨by have:=h.1;simpa using this,λad e j u hu=>?_,λe=>?_⟩
 ·rcases h.2 with⟨h1,h0⟩|⟨g,cap,cur,h1,_⟩
  ·injection h1 with h1
   rw[h1]at e;cases e
  ·injection h1 with h1
   rw[h1]at e;injection e with e;subst e;exact h.cells (by rw[h1];rfl) j u hu
 ·rcases h.2 with⟨_,h0⟩|⟨g,cap,cur,h1,_⟩
  ·exact h0
  ·injection h1 with h1
   rw[h1]at e;cases e
theorem Za0 {w:World} {base:Nat} {e:TypeId} {n:Nat} {v:Value} {xs:List Value} (h:w.ownsRow base e 1 v n xs):∃ A c,v=.slice A n c/\n<=c:=by
 rcases h.2 with⟨rfl,rfl⟩|⟨g,cap,cur,rfl,_,_,h1,_⟩
 ·exact⟨_,_,rfl,Yar _⟩
 ·exact⟨_,_,rfl,h1⟩
theorem own:ownKnob Tryz.prog.godebug=none:=by kernel_rfl
theorem Znp:laidOutB Tryz.prog=true:=by kernel_rfl
def BytesIn (w:World) (A:Option Addr) (n:Nat) (bs:Nm):Prop:=n<=maxLen/\Src w A n (bs.map byteV)/\∀ ad,A=some ad->0<n->ad.block<w.heap.size
section
variable {H:Type} {enc:TypeId×Value->H} {w:World}
theorem Zwu {t e:TypeId} (ht:Tryz.prog.underlying t=some (.slice e)) {A:Option Addr} {n c:Nat} {x:DataW H×List MemPlace} {fuel:Nat} {base:Nat} {spare:Nat->Bool} {held:Bool} (h:DataW.trod enc Tryz.prog w base spare held fuel t [.slice A n c]=some x):n<=c:=by
 rcases open_slice ht h with⟨hcs,_⟩|⟨a,len,cap,m,f,D,Pl,hcs,_,hl,_⟩
 ·simp only[List.cons.injEq,Value.slice.injEq,and_true]at hcs
  omega
 ·simp only[List.cons.injEq,Value.slice.injEq,and_true]at hcs
  omega
end
section
variable {H:Type} {enc:TypeId×Value->H} {w:World}
def Zuh (t:TypeId) (d:DataW H):Prop:=∀ v∈d.weights Tryz.prog t,v<=reachBytes
end
theorem Zaa {a b c:World} {B:Nat} (h:Below B a b) (k:Below b.heap.size b c) (hB:B<=b.heap.size):Below B a c:=h.trans (k.mono hB)
theorem Zaf {a w:World} {B:Nat} (h:Below B a w) (n:Nat):Below B a (w.drewN n):=⟨h.os,h.tape,h.output,h.size,h.block⟩
theorem Zgk (l:List UInt8) (p n:Nat):(l.take (p+n)).drop p=(l.drop p).take n:=by
 rw[List.drop_take,Ybr]
def Zak (A:Option Addr) (p c:Nat):Option Addr:=if c=p then A else A.map (·.add p)
def Zaj (x:Int):Prop:=-9223372036854775808<=x/\x<=9223372036854775807
structure PairsIn (w:World) (A:Option Addr) (n:Nat) (l:List (Int×Int)):Prop where
 len:l.length=n
 fit:n<=maxLen
 vals:∀ p∈l,Zaj p.1/\Zaj p.2
 nil:A=none->n=0
 cells:∀ ad,A=some ad->∀ (i:Nat) (p:Int×Int),l[i]?=some p->w.cell? (ad.add (i*2))=some (.int .i64 p.1)/\w.cell? (ad.add (i*2+1))=some (.int .i64 p.2)
theorem PairsIn.below {w w':World} {A:Option Addr} {n:Nat} {l:List (Int×Int)} (h:PairsIn w A n l) (hb:Below w.heap.size w w'):PairsIn w' A n l:=
 ⟨h.len,h.fit,h.vals,h.nil,λad e i p hp=>by
  obtain⟨h1,h2⟩:=h.cells ad e i p hp;exact⟨(hb.cell (Ycb w _ h1)).trans h1,(hb.cell (Ycb w _ h2)).trans h2⟩⟩
theorem Zcy (ad:Addr) (i j:Nat) (h:0<j):ad.add (i+j)=⟨(ad.add i).block,(ad.add i).off+j,none⟩:=by
 unfold Addr.add;split<;>split<;>(first|rfl|(simp_all;done)|(simp_all;omega)|(simp;omega))
theorem PairsIn.at {w:World} {A:Option Addr} {n:Nat} {l:List (Int×Int)} (h:PairsIn w A n l) (k:Nat) (hk:k<n):
  ∃ ad p,A=some ad/\l[k]?=some p/\w.cell? (ad.add (k*2))=some (.int .i64 p.1)/\w.cell? ⟨(ad.add (k*2)).block,(ad.add (k*2)).off+1,none⟩=some (.int .i64 p.2)/\Zaj p.1/\Zaj p.2:=by
 have hl:=h.len;cases hA:A with
 | none=>have:=h.nil hA;omega
 | some ad=>
  subst hA;have hx:l[k]?=some (l[k]'(by omega)):=Yax _;obtain⟨h1,h2⟩:=h.cells ad rfl k _ hx;have hv:=h.vals _ (Yay (h:=(by omega:k<l.length)));rw[Zcy _ _ _ (by omega)]at h2;exact⟨ad,_,rfl,hx,h1,h2,hv.1,hv.2⟩
section
variable {H:Type} {enc:TypeId×Value->H} {w:World}
theorem Qeb {e:TypeId} {fs:Array Field} {f0 f1:Field} (he:Tryz.prog.underlying e=some (.struct fs)) (hf0:fs[0]?=some f0) (hf1:fs[1]?=some f1) (hs2:fs.size=2) (h2:Tryz.prog.cellsOf e=2)
  (t0:Tryz.prog.underlying f0.type=some (.int .i64)) (t1:Tryz.prog.underlying f1.type=some (.int .i64)) (c0:Tryz.prog.cellsOf f0.type=1) (c1:Tryz.prog.cellsOf f1.type=1) (o0:f0.offset=0) (o1:f1.offset=1)
  {cs:List Value} {x:DataW H×List MemPlace} {fuel:Nat} {base:Nat} {spare:Nat->Bool} {held:Bool} (h:DataW.trod enc Tryz.prog w base spare held fuel e cs=some x):
  ∃ p:Int×Int,cs=[.int .i64 p.1,.int .i64 p.2]/\Zaj p.1/\Zaj p.2:=by
 obtain⟨ys,m,_,_,hlen,hy,hf⟩:=DataW.trod_struct he h;rw[h2]at hlen;have g0:=hf 0 _ hf0;have g1:=hf 1 _ hf1;rw[c0,o0,Yax (by omega)]at g0;rw[c1,o1,Yax (by omega)]at g1
 match cs,hlen with
 | [a,b],_=>
  simp only[List.drop_zero,List.drop_succ_cons,Yaj,List.take_zero]at g0 g1;obtain⟨n0,e0,_,w0⟩:=DataW.trod_int t0 g0;obtain⟨n1,e1,_,w1⟩:=DataW.trod_int t1 g1;simp only[List.cons.injEq,and_true]at e0 e1;simp[Lit.wf,IntKind.min,IntKind.max,IntKind.signed,IntKind.bits]at w0 w1;subst e0 e1;exact⟨(n0,n1),rfl,⟨by show -9223372036854775808<=n0;omega,by show n0<=9223372036854775807;omega⟩,⟨by show -9223372036854775808<=n1;omega,by show n1<=9223372036854775807;omega⟩⟩
theorem Qag {t e:TypeId} (ht:Tryz.prog.underlying t=some (.slice e)) (h2:Tryz.prog.cellsOf e=2)
  (hp:∀ {cs:List Value} {x:DataW H×List MemPlace} {fuel:Nat} {base:Nat} {spare:Nat->Bool} {held:Bool},DataW.trod enc Tryz.prog w base spare held fuel e cs=some x->∃ p:Int×Int,cs=[.int .i64 p.1,.int .i64 p.2]/\Zaj p.1/\Zaj p.2)
  {A:Option Addr} {n c:Nat} {x:DataW H×List MemPlace} {fuel:Nat} {base:Nat} {spare:Nat->Bool} {held:Bool} (h:DataW.trod enc Tryz.prog w base spare held fuel t [.slice A n c]=some x):∃ l,PairsIn w A n l:=by
 rcases open_slice ht h with⟨hcs,_⟩|⟨a,len,cap,m,f,D,Pl,hcs,_,hl,hm,hmm,hx,hi⟩
 ·simp only[List.cons.injEq,Value.slice.injEq,and_true]at hcs
  obtain⟨rfl,rfl,rfl⟩:=hcs;exact⟨[],rfl,by unfold maxLen;omega,by simp,λ_=>rfl,λad e=>by cases e⟩
 ·simp only[List.cons.injEq,Value.slice.injEq,and_true]at hcs
  obtain⟨rfl,rfl,rfl⟩:=hcs;have hlm:n<=m:=by rw[hmm];split<;>omega
  have hex:∀ i,i<n->∃ p:Int×Int,(Zaj p.1/\Zaj p.2)/\w.cell? (a.add (i*2))=some (.int .i64 p.1)/\w.cell? (a.add (i*2+1))=some (.int .i64 p.2):=by
   intro i hlt;obtain⟨cs',hc,hd⟩:=hi i (by omega);rw[h2]at hc;obtain⟨p,rfl,h3,h4⟩:=hp hd;obtain⟨_,_,hat⟩:=World.cells?_some hc;have k0:=hat 0 (by simp);have k1:=hat 1 (by simp);rw[add_add]at k0 k1;exact⟨p,⟨h3,h4⟩,k0,k1⟩
  have hw:∀ k,k<=n->∃ l:List (Int×Int),l.length=k/\(∀ p∈l,Zaj p.1/\Zaj p.2)/\∀ (i:Nat) (p:Int×Int),l[i]?=some p->w.cell? (a.add (i*2))=some (.int .i64 p.1)/\w.cell? (a.add (i*2+1))=some (.int .i64 p.2):=by
   intro k
   induction k with
   | zero=>intro _;exact⟨[],rfl,by simp,by simp⟩
   | succ k ih=>
    intro hk;obtain⟨l,h1,h3,h4⟩:=ih (by omega);obtain⟨p,h5,h6⟩:=hex k (by omega);refine⟨l++[p],by simp[h1],λy hy=>?_,λi y hy=>?_⟩
    ·rcases Ybj.1 hy with h|h
     ·exact h3 y h
     ·rw[Ybi.1 h];exact h5
    ·rcases Yab i k with hik|hik
     ·rw[Yba (by omega)]at hy
      exact h4 i y hy
     ·have hlt:=(Ybb.1 hy).1
      simp[h1]at hlt;obtain rfl:i=k:=by omega
      rw[Ybc (by omega),h1,Ybq]at hy;simp at hy;subst hy;exact h6
  obtain⟨l,h1,h3,h4⟩:=hw n (Yar _);exact⟨l,h1,by omega,h3,(λe=>by cases e),λad e=>by cases e;exact h4⟩
end
theorem Za9:(Tryz.prog.info? 5).map (λi=>(i.zero,i.size,i.bytes))=some (some (.int .u8 0),1,1):=by kernel_rfl
theorem Zgr (w:World) (A:Option Addr) (n c p:Nat) (h:p<=c):(Instr.slice 24 (.slice A n c) none (some (.int .i64 p)) none).run Tryz.prog w=.ok (.slice A p c) w:=by
 obtain⟨i0,hi,hz0,hz1,hz2⟩:=info_parts Za9;rw[run_slice_h (P:=Tryz.prog) (w:=w) 24 A n c Tryz.underlying24 .i64 p (by omega) (by omega)];have he:Tryz.prog.elem 24=5:=by kernel_rfl
 rw[he];have hs:(sizeOf 5).run Tryz.prog w=Result.ok i0.size w:=by
  rw[run_sizeOf w hi];unfold Program.cellsOf;rw[hi];rfl
 rw[hs];simp[Result.andThen,sliced,Addr.add]
section
variable {H:Type} {enc:TypeId×Value->H} {w:World}
theorem Qar {A:Option Addr} {n c:Nat} {x:DataW H×List MemPlace} {fuel:Nat} {base:Nat} {spare:Nat->Bool} {held:Bool} (h:DataW.trod enc Tryz.prog w base spare held fuel 24 [.slice A n c]=some x):∃ bs,BytesIn w A n bs:=by
 rcases open_ints Tryz.underlying24 Tryz.underlying5 (by kernel_rfl) h with⟨hcs,_⟩|⟨a,l,cp,zs,hcs,_,hl,hm,hz,_,hcell,hwz⟩
 ·simp only[List.cons.injEq,Value.slice.injEq,and_true]at hcs
  obtain⟨rfl,rfl,rfl⟩:=hcs;exact⟨[],by unfold maxLen;omega,⟨rfl,(λad e=>by cases e),λ_=>rfl⟩,λad e=>by cases e⟩
 ·simp only[List.cons.injEq,Value.slice.injEq,and_true]at hcs
  obtain⟨rfl,rfl,rfl⟩:=hcs;have hzl:n<=zs.length:=by rw[hz];split<;>omega
  have hc:∀ j u,((zs.take n).map λz=>byteV (UInt8.ofNat z.toNat))[j]?=some u->w.cell? (a.add j)=some u:=by
   intro j u hu;rw[Ych,Yci]at hu;split at hu
   ·rename_i hj
    have hjz:j<zs.length:=by omega
    rw[Yax hjz]at hu;simp only[Option.map_some,Option.some.injEq]at hu;rw[hcell j hjz,<- hu];have hw:=hwz zs[j] (Yay hjz);have hb:0<=zs[j]/\zs[j]<=255:=by
     have:=hw
     simp[Lit.wf,IntKind.min,IntKind.max,IntKind.signed,IntKind.bits]at this;exact this
    simp only[byteV,Yaw,Yax hjz,Ybw,Option.some.injEq,Value.int.injEq,true_and];have:(UInt8.ofNat zs[j].toNat).toNat=zs[j].toNat:=by
     exact Yaa (by show _<256;omega)
    rw[this];omega
   ·cases hu
  refine⟨(zs.take n).map λz=>UInt8.ofNat z.toNat,by omega,⟨by simp;omega,λad e j u hu=>?_,(λe=>by cases e)⟩,λad e hn=>?_⟩
  ·injection e with e
   subst e;exact hc j u (by rw[<- hu,List.map_map];rfl)
  ·injection e with e
   subst e;have h0:=hcell 0 (by omega);have h1:a.add 0=a:=by simp[Addr.add]
   rw[h1]at h0;exact Ycb w a h0
theorem Qea {A:Option Addr} {n c:Nat} {x:DataW H×List MemPlace} {fuel:Nat} {base:Nat} {spare:Nat->Bool} {held:Bool} (h:DataW.trod enc Tryz.prog w base spare held fuel 24 [.slice A n c]=some x) (_:Zuh 24 x.1):∃ l,BytesIn w A n l:=Qar h
end
def i64V (n:Int):Value:=.int .i64 n
theorem Zco (l:List Int):∀ u∈l.map i64V,u.oneCell'=true:=by
 intro u hu;obtain⟨x,_,rfl⟩:=Yaz.1 hu;rfl
def IntsIn (w:World) (A:Option Addr) (n:Nat) (l:List Int):Prop:=n<=maxLen/\Src w A n (l.map i64V)/\(∀ x∈l,-9223372036854775808<=x/\x<=9223372036854775807)/\∀ ad,A=some ad->0<n->ad.block<w.heap.size
theorem IntsIn.len {w:World} {A:Option Addr} {n:Nat} {l:List Int} (h:IntsIn w A n l):l.length=n:=by have:=h.2.1.len;simpa using this
theorem IntsIn.below {w w':World} {A:Option Addr} {n:Nat} {l:List Int} (h:IntsIn w A n l) (hb:Below w.heap.size w w'):IntsIn w' A n l:=
 ⟨h.1,h.2.1.keep λad e hn=>hb.block _ (h.2.2.2 ad e hn),h.2.2.1,λad e hn=>Ya7 (h.2.2.2 ad e hn) hb.size⟩
theorem IntsIn.own {w:World} {base:Nat} {e:TypeId} {A:Option Addr} {n c:Nat} {l:List Int} (h:w.ownsRow base e 1 (.slice A n c) n (l.map i64V)) (h63:n<=maxLen) (hl:∀ x∈l,-9223372036854775808<=x/\x<=9223372036854775807):IntsIn w A n l:=
 ⟨h63,Zbj h,hl,λad e _=>(h.lt ad.block (by rw[e];rfl)).2⟩
theorem IntsIn.at {w:World} {A:Option Addr} {n:Nat} {l:List Int} (h:IntsIn w A n l) (k:Nat) (hk:k<n):∃ ad x,A=some ad/\l[k]?=some x/\w.cell? (ad.add k)=some (.int .i64 x)/\-9223372036854775808<=x/\x<=9223372036854775807:=by
 have hl:=h.len;cases hA:A with
 | none=>have:=h.2.1.nil hA;omega
 | some ad=>
  subst hA;have hx:l[k]?=some (l[k]'(by omega)):=Yax _;have hb:=h.2.2.1 _ (Yay (h:=(by omega:k<l.length)));exact⟨ad,_,rfl,hx,h.2.1.cells ad rfl k (i64V (l[k]'(by omega))) (by rw[Ych,hx];rfl),hb.1,hb.2⟩
section
variable {H:Type} {enc:TypeId×Value->H} {w:World}
end
theorem Zbe (w:World) (e:TypeId) (x:Int):Src (w.alloc (.cells #[.int .i64 x] e)) (some ⟨w.heap.size,0,none⟩) 1 ([x].map i64V):=by
 refine⟨rfl,λad e' j u hu=>?_,λe'=>by cases e'⟩;cases e'
 have hj:j=0:=by
  have:=(Ybb.1 hu).1
  simp at this;exact this
 subst hj;rw[show(⟨w.heap.size,0,none⟩:Addr).add 0=⟨w.heap.size,0,none⟩ by simp[Addr.add],cell_of_row _ w.heap.size 0 _ e (0,0) (Ybl w _)];simpa[i64V]using hu
end
section
theorem Zgv:(Tryz.prog.info? 3).map (λi=>(i.zero,i.size,i.bytes))=some (some (.int .i64 0),1,8):=by kernel_rfl
theorem Ztk:(Tryz.prog.info? 3).map (λi=>(i.zero,i.size,i.bytes))=some (some (.int .i64 0),1,8):=by kernel_rfl
end
section
open Go.RowKit Go.Maps Go.WideMaps
theorem Zcq {w:World} {base base':Nat} {e:TypeId} {size n:Nat} {v:Value} {xs:List Value} (h:w.ownsRow base e size v n xs) (hb:base'<=base):w.ownsRow base' e size v n xs:=
 ⟨h.1,h.2.imp id λ⟨g,cap,cur,h1,h2,h3⟩=>⟨g,cap,cur,h1,Ybu hb h2,h3⟩⟩
theorem Zbi {w:World} {base:Nat} {e:TypeId} {size n c m:Nat} {A:Option Addr} {xs:List Value} (h:w.ownsRow base e size (.slice A n c) m xs):n<=c:=by
 rcases h.2 with⟨h1,_⟩|⟨g,cap,cur,h1,_,_,h2,_⟩
 ·cases h1;exact Yar _
 ·cases h1;exact h2
theorem Zar {P:Program} (w:World) {ops:Array Oper} {o:Oper} {a:Act} {K:Act->World->Prop} {Q:Exit->Act->World->Prop} {E:Prop} (hgd:o.guard=none) (s x:Operand) (t:TypeId)
  (ho:o.op=.call { callee:=.builtin .append,args:=#[s,x],argTypes:=#[t,t] })
  (base:Nat) (e:TypeId) (i:TypeInfo) (z:Value) (size bytes:Nat) (ht:P.underlying t=some (.slice e)) (hi:P.info? e=some i) (hz:i.zero=some z)
  (hsize:i.size=size) (hby:i.bytes=bytes) (hzs:z.cells.size=size) (hsz:0<size)
  (v:Value) (n:Nat) (xs:List Value) (hs:a.eval s=v) (hown:w.ownsRow base e size v n xs)
  (ad:Addr) (m c:Nat) (news:List Value) (hx:a.eval x=.slice (some ad) m c) (hl:news.length=m*size) (hnews:∀ j u,news[j]?=some u->w.cell? (ad.add j)=some u) (h1:∀ u∈news,u.oneCell'=true)
  (h63:n+m<=maxLen) (hbytes:(n+m)*bytes<=140737488355328) (hbase:base<=w.heap.size)
  (h:∀ v' w',w'.ownsRow base e size v' (n+m) (xs++news)->w.grownBy w' v.ownBlock->(v'.ownBlock=v.ownBlock\/v'.ownBlock=some w.heap.size)->K (a.put o.dst v') w'):
  if Region.wanted o (yielded ops a.tmps)=true then Oper.wp P o a w K Q else E:=by
 have hw:Region.wanted o (yielded ops a.tmps)=true:=by simp[Region.wanted,hgd]
 rw[Yag hw];obtain⟨v',w',hrun,h2,h3,_,h4⟩:=run_append_own_at (P:=P) w base t o.type e i z size bytes ht hi hz hsize hby hzs hsz v n xs hown ad m c news hl hnews h1 h63 hbytes hbase;unfold Oper.wp execOp;simp only[ho,resolve,invoke,builtin,Sem.run_bind,Sem.run_pure,Result.andThen_ok,List.map_toArray,Ya2,List.map_nil,hs,hx,hrun];exact h v' w' h2 h3 h4
end
end Go.Proofs.YthcjikpabpgpfaaGreat
