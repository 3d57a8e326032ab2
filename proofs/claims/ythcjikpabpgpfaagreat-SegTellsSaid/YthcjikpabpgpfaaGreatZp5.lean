import Derived.Test.YthcjikpabpgpfaaGreatZp3
import Derived.Lib.SlBytesConst
import Derived.Laws.OwnMore
import Derived.Lib.Strings
import Derived.Lib.UnsafeStr
import Derived.Lib.BufferRead
import Derived.Test.YthcjikpabpgpfaaGreatZp2
import Derived.Deep.QuietTactic
import Derived.BigQuiet
import Derived.Test.YthcjikpabpgpfaaGreatZp1
import Derived.Laws.BitsAllLaws
import Derived.Laws.StructEq
import Derived.Lib.SmallJoins
import Derived.Lib.AppendZerosOnto
import Derived.Laws.Rows
import Derived.Laws.Tables
import Derived.Laws.ResultCell
import Derived.Deep.WholeRow
import Derived.Deep.Quiet
import Derived.Deep.SlicePairs
import Derived.Deep.Strs
import Derived.ChangeOld
set_option linter.unusedSimpArgs false
set_option maxHeartbeats 16000000
set_option maxRecDepth 100000
namespace Go.Proofs.YthcjikpabpgpfaaGreat
section
open Go.RowKit Go.Maps Go.WideMaps
theorem BytesIn.below {w w':World} {A:Option Addr} {n:Nat} {l:Nm} (h:BytesIn w A n l) (hb:Below w.heap.size w w'):BytesIn w' A n l:=
 ⟨h.1,h.2.1.keep λad e hn=>hb.block _ (h.2.2 ad e hn),λad e hn=>Ya7 (h.2.2 ad e hn) hb.size⟩
theorem BytesIn.nil (w:World):BytesIn w none 0 []:=⟨by unfold maxLen;omega,⟨rfl,(λad e=>by cases e),λ_=>rfl⟩,λad e=>by cases e⟩
theorem BytesIn.ofRow {w:World} {g n:Nat} {l:Nm} {t:TypeId} {fr:Nat×Nat} (h:w.heap[g]?=some (.cells (l.map byteV).toArray t fr)) (hn:l.length=n) (h63:n<=maxLen):BytesIn w (some ⟨g,0,none⟩) n l:=by
 have hlt:g<w.heap.size:=by
  rcases Yab g w.heap.size with h1|h1
  ·exact h1
  ·rw[Array.getElem?_eq_none h1]at h;cases h
 refine⟨h63,⟨by simpa using hn,λad e j u hu=>?_,λe=>by cases e⟩,λad e _=>?_⟩
 ·cases e
  have e2:(⟨g,0,none⟩:Addr).add j=⟨g,j,none⟩:=by
   unfold Addr.add;split
   ·rename_i h0;rw[h0]
   ·simp
  rw[e2,cell_of_row w g j _ t fr h];simpa using hu
 ·cases e
  exact hlt
theorem Zj2 (w:World) (l:Nm) (fr:Nat×Nat) (h63:l.length<=maxLen):BytesIn (w.alloc (.cells (l.map byteV).toArray 5 fr)) (some ⟨w.heap.size,0,none⟩) l.length l:=
 BytesIn.ofRow (Ybl w _) rfl h63
theorem Zm4 (w:World) (x:UInt8):Src (w.alloc (.cells #[.int .u8 x.toNat] 5)) (some ⟨w.heap.size,0,none⟩) 1 ([x].map byteV):=
 (BytesIn.ofRow (n:=1) (l:=[x]) (Ybl w _) rfl (by unfold maxLen;omega)).2.1
theorem Qed (w:World) (l:Nm) (h:l.length<=maxLen):Src (w.alloc (.cells (l.map byteV).toArray 5)) (some ⟨w.heap.size,0,none⟩) l.length (l.map byteV):=(Zj2 w l (0,0) h).2.1
theorem Ze4 {w:World} {base n:Nat} {v:Value} {xs:List Value} (h:w.ownsRow base 5 1 v n xs) (o:Obj):(w.alloc o).ownsRow base 5 1 v n xs:=Yb6 h o
theorem BytesIn.part {w:World} {ad:Addr} {n:Nat} {l:Nm} (h:BytesIn w (some ad) n l) (p q:Nat) (hp:p<=q) (hq:q<=n):BytesIn w (some (ad.add p)) (q-p) ((l.take q).drop p):=by
 have hl:l.length=n:=by have:=h.2.1.len;simpa using this
 have hb:(ad.add p).block=ad.block:=by unfold Addr.add;split<;>rfl
 refine⟨by have:=h.1;omega,⟨by simp;omega,λa e j u hu=>?_,λe=>by cases e⟩,λa e h0=>?_⟩
 ·cases e
  have e2:(ad.add p).add j=ad.add (p+j):=by
   unfold Addr.add;split<;>split<;>(first|rfl|(split<;>simp_all<;>omega)|(simp_all;omega)|skip)
  rw[e2];refine h.2.1.cells ad rfl (p+j) u ?_;rw[Ych,Ybv,Yci]at hu;split at hu
  ·rw[Ych];exact hu
  ·cases hu
 ·cases e
  rw[hb];exact h.2.2 ad rfl (by omega)
theorem BytesIn.drew {w:World} {A:Option Addr} {n:Nat} {l:Nm} (h:BytesIn w A n l):BytesIn w.drew A n l:=⟨h.1,⟨h.2.1.1,h.2.1.2,h.2.1.3⟩,h.2.2⟩
theorem BytesIn.drewN {w:World} {A:Option Addr} {n:Nat} {l:Nm} (h:BytesIn w A n l) (q:Nat):BytesIn (w.drewN q) A n l:=⟨h.1,⟨h.2.1.1,h.2.1.2,h.2.1.3⟩,h.2.2⟩
theorem BytesIn.own {w:World} {base:Nat} {A:Option Addr} {n c:Nat} {l:Nm} (h:w.ownsRow base 5 1 (.slice A n c) n (l.map byteV)) (h63:n<=maxLen):BytesIn w A n l:=
 ⟨h63,Zbj h,λad e _=>(h.lt ad.block (by rw[e];rfl)).2⟩
theorem Zwp {w:World} {ad:Addr} {n K:Nat} {l:Nm} {x:UInt8} (h:BytesIn w (some ad) n l) (hx:l[K]?=some x):w.cell? (ad.add K)=some (.int .u8 x.toNat):=
 h.2.1.cells ad rfl K (byteV x) (by rw[Ych,hx];rfl)
theorem BytesIn.at {w:World} {A:Option Addr} {n:Nat} {l:Nm} (h:BytesIn w A n l) (k:Nat) (hk:k<n):∃ ad x,A=some ad/\l[k]?=some x/\w.cell? (ad.add k)=some (.int .u8 x.toNat):=by
 have hl:l.length=n:=by have:=h.2.1.len;simpa using this
 cases hA:A with
 | none=>have:=h.2.1.nil hA;omega
 | some ad=>
  subst hA;have hx:l[k]?=some (l[k]'(by omega)):=Yax _;exact⟨ad,_,rfl,hx,Zwp h hx⟩
theorem BytesIn.sub {w:World} {A:Option Addr} {n c:Nat} {l:Nm} (h:BytesIn w A n l) (hc:n<=c) (p q:Nat) (hp:p<=q) (hq:q<=n):BytesIn w (Zak A p c) (q-p) ((l.take q).drop p):=by
 have hl:l.length=n:=by have:=h.2.1.len;simpa using this
 unfold Zak;by_cases hcp:c=p
 ·rw[Yag hcp]
  have e:(l.take q).drop p=[]:=Ya0 (by simp;omega);rw[e,show q-p=0 by omega];exact⟨Ybd _,⟨rfl,λad _ j u hu=>by simp at hu,λ_=>rfl⟩,λad _ h0=>by omega⟩
 ·rw[Yaf hcp]
  cases A with
  | none=>
   have:=h.2.1.nil rfl
   have e:(l.take q).drop p=[]:=Ya0 (by simp;omega);rw[e,show q-p=0 by omega];exact⟨Ybd _,⟨rfl,λad _ j u hu=>by simp at hu,λ_=>rfl⟩,λad _ h0=>by omega⟩
  | some ad=>exact h.part p q hp hq
theorem BytesIn.upto {w:World} {A:Option Addr} {n:Nat} {l:Nm} (h:BytesIn w A n l) (q:Nat) (hq:q<=n):BytesIn w A q (l.take q):=by
 have hl:l.length=n:=by have:=h.2.1.len;simpa using this
 refine⟨Ybu hq h.1,⟨by simp;omega,λad e j u hu=>?_,λe=>by have:=h.2.1.nil e;omega⟩,λad e h0=>h.2.2 ad e (by omega)⟩;refine h.2.1.cells ad e j u ?_;rw[Ych,Yci]at hu;split at hu
 ·rw[Ych];exact hu
 ·cases hu
theorem Ztc (w:World):(sizeOf (Tryz.prog.elem 24)).run Tryz.prog w=.ok 1 w:=by
 obtain⟨i0,hi,hz0,hz1,hz2⟩:=info_parts Za9;rw[show Tryz.prog.elem 24=5 by kernel_rfl,run_sizeOf w hi];unfold Program.cellsOf;rw[hi];simp[hz1]
theorem Zbf (w:World) (A:Option Addr) (n c p:Nat) (hp:p<=n):(Instr.slice 24 (.slice A n c) (some (.int .i64 p)) none none).run Tryz.prog w=.ok (.slice (Zak A p c) (n-p) (c-p)) w:=by
 rw[run_slice_l (P:=Tryz.prog) (w:=w) 24 A n c Tryz.underlying24 .i64 p (by omega) (by omega),Ztc];simp[Result.andThen,sliced,Zak]
theorem Zgu (w:World) (A:Option Addr) (n c p q:Nat) (hp:p<=q) (hq:q<=c):(Instr.slice 24 (.slice A n c) (some (.int .i64 p)) (some (.int .i64 q)) none).run Tryz.prog w=.ok (.slice (Zak A p c) (q-p) (c-p)) w:=by
 rw[run_slice_lh (P:=Tryz.prog) (w:=w) 24 A n c Tryz.underlying24 .i64 .i64 p q (by omega) (by omega) (by omega),Ztc];simp[Result.andThen,sliced,Zak]
end
section
open Go.RowKit Go.Maps Go.WideMaps Go.ChangeShapes Go.WideShapes Go.ChangeAt Go.Deep
structure DocsIn (w:World) (A:Option Addr) (n:Nat) (l:List (Nm×Nm)):Prop where
 len:l.length=n
 fit:n<=maxLen
 vals:∀ p∈l,p.1.length<=maxLen/\p.2.length<=maxLen
 nil:A=none->n=0
 cells:∀ ad,A=some ad->∀ (i:Nat) (p:Nm×Nm),l[i]?=some p->w.cell? (ad.add (i*2))=some (.string ⟨p.1.toArray⟩)/\w.cell? (ad.add (i*2+1))=some (.string ⟨p.2.toArray⟩)
theorem DocsIn.below {w w':World} {A:Option Addr} {n:Nat} {l:List (Nm×Nm)} (h:DocsIn w A n l) (hb:Below w.heap.size w w'):DocsIn w' A n l:=
 ⟨h.len,h.fit,h.vals,h.nil,λad e i p hp=>by
  obtain⟨h1,h2⟩:=h.cells ad e i p hp;exact⟨(hb.cell (Ycb w _ h1)).trans h1,(hb.cell (Ycb w _ h2)).trans h2⟩⟩
theorem DocsIn.at {w:World} {A:Option Addr} {n:Nat} {l:List (Nm×Nm)} (h:DocsIn w A n l) (k:Nat) (hk:k<n):
  ∃ ad p,A=some ad/\l[k]?=some p/\w.cell? (ad.add (k*2))=some (.string ⟨p.1.toArray⟩)/\w.cell? ⟨(ad.add (k*2)).block,(ad.add (k*2)).off+1,none⟩=some (.string ⟨p.2.toArray⟩)/\p.1.length<=maxLen/\p.2.length<=maxLen:=by
 have hl:=h.len;cases hA:A with
 | none=>have:=h.nil hA;omega
 | some ad=>
  subst hA;have hx:l[k]?=some (l[k]'(by omega)):=Yax _;obtain⟨h1,h2⟩:=h.cells ad rfl k _ hx;have hv:=h.vals _ (Yay (h:=(by omega:k<l.length)));rw[Zcy _ _ _ (by omega)]at h2;exact⟨ad,_,rfl,hx,h1,h2,hv.1,hv.2⟩
def Zf8 (p:Nm×Nm):Prop:=1<=p.1.length/\p.1.length<=32/\p.2.length<=4096
instance (p:Nm×Nm):Decidable (Zf8 p):=by unfold Zf8;infer_instance
def Zb1 (l:List (Nm×Nm)):Prop:=l.length<=64/\(∀ p∈l,Zf8 p)/\(l.map Prod.fst).Nodup
instance (l:List (Nm×Nm)):Decidable (Zb1 l):=by unfold Zb1;infer_instance
def Qfb (l:List (Nm×Nm)) (k:Nat):Prop:=∀ (i:Nat) (p:Nm×Nm),i<k->l[i]?=some p->Zf8 p/\∀ (j:Nat) (q:Nm×Nm),j<i->l[j]?=some q->q.1≠p.1
theorem Qaf {l:List (Nm×Nm)} (h:l.length<=64) (hs:Qfb l l.length):Zb1 l:=by
 refine⟨h,λp hp=>?_,?_⟩
 ·obtain⟨i,hi⟩:=List.mem_iff_getElem?.1 hp
  exact(hs i p (Ybb.1 hi).1 hi).1
 ·rw[List.Nodup,Yck]
  intro i j hi hj hij;simp only[Ybf]at hi hj;simp only[List.getElem_map];exact(hs j l[j] hj (Yax _)).2 i l[i] hij (Yax _)
theorem Zh0 {l:List (Nm×Nm)} {i:Nat} {p:Nm×Nm} (h:l[i]?=some p) (hb:¬ Zf8 p):¬ Zb1 l:=λe=>hb (e.2.1 p (Ybz h))
theorem Zwh {l:List (Nm×Nm)} {i j:Nat} {p q:Nm×Nm} (h:l[i]?=some p) (h2:l[j]?=some q) (hij:j<i) (hb:q.1=p.1):¬ Zb1 l:=λe=>by
 have hi:=(Ybb.1 h)
 have hj:=(Ybb.1 h2)
 obtain⟨hi,ei⟩:=hi;obtain⟨hj,ej⟩:=hj;have:=(Yck.1 e.2.2) j i (by simpa using hj) (by simpa using hi) hij
 simp only[List.getElem_map,ei,ej]at this;exact this hb
theorem Qdj (x y:Nm):((⟨x.toArray⟩:ByteArray).toList==(⟨y.toArray⟩:ByteArray).toList)=decide (x=y):=by
 rw[ByteArray.toList_eq,ByteArray.toList_eq];by_cases h:x=y
 ·subst h;simp
 ·simp[h]
theorem Zcb (x:Nm):(⟨x.toArray⟩:ByteArray).size=x.length:=by simp[ByteArray.size]
theorem Zgf:(Tryz.prog.info? 24).map (λi=>(i.zero,i.size,i.bytes))=some (some (.slice none 0 0),1,24):=by kernel_rfl
def Holds1 (w:World) (sv:Value) (x:Nm):Prop:=∃ A c,sv=.slice A x.length c/\x.length<=c/\BytesIn w A x.length x
theorem Holds1.below {w w':World} {sv:Value} {x:Nm} (h:Holds1 w sv x) (hb:Below w.heap.size w w'):Holds1 w' sv x:=by
 obtain⟨A,c,h1,h2,h3⟩:=h;exact⟨A,c,h1,h2,h3.below hb⟩
theorem Holds1.own {w:World} {base:Nat} {v:Value} {x:Nm} (h:w.ownsRow base 5 1 v x.length (x.map byteV)) (h63:x.length<=maxLen):Holds1 w v x:=by
 obtain⟨A,c,h1,h2⟩:=Za0 h;subst h1;exact⟨A,c,rfl,h2,BytesIn.own h h63⟩
structure RowsSee (w:World) (A:Option Addr) (n:Nat) (L:List Nm):Prop where
 len:L.length=n
 fit:n<=maxLen
 at_:∀ (i:Nat) (x:Nm),L[i]?=some x->∃ ad B c,A=some ad/\w.cell? (ad.add i)=some (.slice B x.length c)/\x.length<=c/\BytesIn w B x.length x
theorem RowsSee.below {w w':World} {A:Option Addr} {n:Nat} {L:List Nm} (h:RowsSee w A n L) (hb:Below w.heap.size w w'):RowsSee w' A n L:=
 ⟨h.len,h.fit,λi x hx=>by
  obtain⟨ad,B,c,h1,h2,h3,h4⟩:=h.at_ i x hx;exact⟨ad,B,c,h1,(hb.cell (Ycb w _ h2)).trans h2,h3,h4.below hb⟩⟩
theorem RowsSee.drewN {w:World} {A:Option Addr} {n:Nat} {L:List Nm} (h:RowsSee w A n L) (q:Nat):RowsSee (w.drewN q) A n L:=h.below (Zaf (Ybm _ _) q)
def RowsAt (w:World) (base:Nat) (v:Value) (L:List Nm):Prop:=
 ∃ svs:List Value,w.ownsRow base 24 1 v L.length svs/\∀ (i:Nat) (sv:Value) (x:Nm),svs[i]?=some sv->L[i]?=some x->∃ A c,sv=.slice A x.length c/\x.length<=c/\BytesIn w A x.length x/\∀ ad,A=some ad->0<x.length->v.ownBlock≠some ad.block
theorem RowsAt.nil (w:World) (base:Nat):RowsAt w base (.slice none 0 0) []:=⟨[],⟨rfl,.inl ⟨rfl,rfl⟩⟩,λi sv x h _=>by simp at h⟩
theorem RowsAt.below {w w':World} {base:Nat} {v:Value} {L:List Nm} (h:RowsAt w base v L) (hb:Below w.heap.size w w'):RowsAt w' base v L:=by
 obtain⟨svs,h1,h2⟩:=h;refine⟨svs,Zab h1 λg hg=>hb.block g (h1.lt g hg).2,λi sv x e1 e2=>?_⟩;obtain⟨A,c,h3,h4,h5,h6⟩:=h2 i sv x e1 e2;exact⟨A,c,h3,h4,h5.below hb,h6⟩
theorem RowsAt.see {w:World} {base:Nat} {A:Option Addr} {n c:Nat} {L:List Nm} (h:RowsAt w base (.slice A n c) L) (h63:L.length<=maxLen):RowsSee w A L.length L/\n=L.length/\n<=c:=by
 obtain⟨svs,h1,h2⟩:=h;obtain⟨A',c',e1,e2⟩:=Za0 h1;injection e1 with ea en ec;subst ea en ec;refine⟨⟨rfl,h63,λi x hx=>?_⟩,rfl,e2⟩;have hl:svs.length=L.length:=by have:=h1.1;simpa using this
 have hi:=(Ybb.1 hx).1;have hs:svs[i]?=some (svs[i]'(by omega)):=Yax _;obtain⟨B,cb,h3,h4,h5,_⟩:=h2 i _ x hs hx;have hsrc:=Zbj h1;cases hA:A with
 | none=>have:=hsrc.nil hA;omega
 | some ad=>
  refine⟨ad,B,cb,rfl,?_,h4,h5⟩;have:=hsrc.cells ad hA i _ hs
  rw[h3]at this;exact this
theorem RowsAt.push {w w':World} {base:Nat} {v v' sv:Value} {L:List Nm} {x:Nm} {svs:List Value}
  (h2:∀ (i:Nat) (sv:Value) (x:Nm),svs[i]?=some sv->L[i]?=some x->∃ A c,sv=.slice A x.length c/\x.length<=c/\BytesIn w A x.length x/\∀ ad,A=some ad->0<x.length->v.ownBlock≠some ad.block)
  (hl:svs.length=L.length) (hs:Holds1 w sv x) (hap:∀ A c ad,sv=.slice A x.length c->A=some ad->0<x.length->v.ownBlock≠some ad.block)
  (ho:w'.ownsRow base 24 1 v' (L.length+1) (svs++[sv])) (hg:w.grownBy w' v.ownBlock) (hloc:v'.ownBlock=v.ownBlock\/∃ g,v'.ownBlock=some g/\w.heap.size<=g):RowsAt w' base v' (L++[x]):=by
 have keep:∀ {A:Option Addr} {y:Nm},BytesIn w A y.length y->(∀ ad,A=some ad->0<y.length->v.ownBlock≠some ad.block)->BytesIn w' A y.length y/\∀ ad,A=some ad->0<y.length->v'.ownBlock≠some ad.block:=by
  intro A y hb hn;refine⟨⟨hb.1,hb.2.1.keep λad e h0=>hg.block _ (hb.2.2 ad e h0) (λe2=>hn ad e h0 e2.symm),λad e h0=>Ya7 (hb.2.2 ad e h0) hg.size⟩,λad e h0=>?_⟩;rcases hloc with h|⟨g,h,hge⟩
  ·rw[h];exact hn ad e h0
  ·rw[h]
   intro e2;have h3:=hb.2.2 ad e h0;have h4:g=ad.block:=Ya9 e2;omega
 refine⟨svs++[sv],by simpa using ho,λi sv' y e1 e2=>?_⟩;rcases Yab i L.length with hi|hi
 ·rw[Yba (by omega)]at e1 e2
  obtain⟨A,c,h3,h4,h5,h6⟩:=h2 i sv' y e1 e2;obtain⟨k1,k2⟩:=keep h5 h6;exact⟨A,c,h3,h4,k1,k2⟩
 ·have hlt:=(Ybb.1 e2).1
  simp at hlt;obtain rfl:i=L.length:=by omega
  rw[Ybc (by omega)]at e1 e2;simp[hl]at e1 e2;subst e1 e2;obtain⟨A,c,h3,h4,h5⟩:=hs;obtain⟨k1,k2⟩:=keep h5 λad e h0=>hap A c ad h3 e h0;exact⟨A,c,h3,h4,k1,k2⟩
theorem Zlc (w:World) (sv:Value) (h:sv.oneCell'=true):Src (w.alloc (.cells #[sv] 24)) (some ⟨w.heap.size,0,none⟩) 1 [sv]:=by
 have _:=h;refine⟨rfl,λad e j u hu=>?_,λe=>by cases e⟩;cases e
 have hj:j=0:=by
  have:=(Ybb.1 hu).1
  simp at this;exact this
 subst hj;rw[show(⟨w.heap.size,0,none⟩:Addr).add 0=⟨w.heap.size,0,none⟩ by simp[Addr.add],cell_of_row _ w.heap.size 0 _ 24 (0,0) (Ybl w _)];simpa using hu
section
variable {H:Type} {enc:TypeId×Value->H} {w:World}
end
end
section
open Go.RowKit Go.Maps Go.WideMaps
theorem Zdx {w:World} {A:Option Addr} {n:Nat} {x:Nm} (h:BytesIn w A n x) (c:Nat):(convert 24 9 (.slice A n c)).run Tryz.prog w=.ok (.string ⟨x.toArray⟩) w:=by
 have hl:x.length=n:=by have:=h.2.1.len;simpa using this
 cases A with
 | none=>
  have h0:=h.2.1.nil rfl;have hx:x=[]:=Ya0 (by omega);subst hx h0;exact Lib.run_convert_nil_bytes w 24 9 5 c Tryz.underlying24 Tryz.underlying5 Tryz.underlying9
 | some ad=>
  have:=run_convert_bytes_back (P:=Tryz.prog) w 24 9 5 ad c x Tryz.underlying24 Tryz.underlying5 Tryz.underlying9 (λj hj=>by
   refine h.2.1.cells ad rfl j _ ?_;rw[Ych,Yax hj];simp[byteV])
  rw[hl]at this;exact this
theorem Zuw (w:World) (A:Option Addr) (n c:Nat) (L:List Nm) (s:Nm) (ha:RowsSee w A n L):
  Calls Tryz.prog 73 #[.slice A n c,.string ⟨s.toArray⟩] w λe w'=>e=.returned (.int .i64 (Zbb L s))/\w'=w:=by
 have HA:=Zh ha;have HLA:=Zh ha.len;have hn63:n<=9223372036854775807:=ha.fit;obtain⟨R,hR⟩:=Ze (Zbb L s);rw[<- hR];have HR:=Zh hR;clear ha hR;go_enter Tryz.func73,Tryz.ntmps73;go_wp2;go_loop [5] (λi=>∃ k:Nat,k<=n/\i=.int .i64 k/\∀ j x,j<k->L[j]?=some x->x≠s) (λi=>n-(intOf i).toNat);case atStart=>exact⟨0,by omega,rfl,λj x h=>by omega⟩
 case round=>
  obtain⟨k,hk,rfl,hno⟩:=hrel;have HNO:=Zh hno;clear hno;rcases Yab k n with hlt|hge
  ·have hlt':(k:Int)<(n:Int):=by omega
   obtain⟨x,hx⟩:∃ x,L[k]?=some x:=⟨_,Yax (by rw[HLA.out];exact hlt)⟩
   obtain⟨pa,Ax,cx,rfl,ea,_,ex⟩:=HA.out.at_ k x hx;have cv:=Zdx ex cx;have HX:=Zh hx;clear hx ex;by_cases hxs:x=s
   ·have d1:(x==s)=true:=by simpa using hxs
    have hfin:R=(k:Int):=by rw[HR.out];exact Zio (by rw[HX.out,hxs]) HNO.out
    have HF:=Zh hfin;clear hxs hfin;go_wp2;go_ret;exact⟨by rw[HF.out];rfl,rfl⟩
   ·have d1:(x==s)=false:=by simpa using hxs
    have HXS:=Zh hxs;clear hxs;go_wp2;go_round;case rel=>
     refine⟨k+1,by omega,by go_num,λj y hj hy=>?_⟩;rcases Yab j k with h|h
     ·exact HNO.out j y h hy
     ·obtain rfl:j=k:=by omega
      rw[HX.out]at hy;cases hy
      exact HXS.out
    case measure=>simp[intOf];omega
  ·obtain rfl:k=n:=by omega
   have hlz:¬ ((k:Int)<(k:Int)):=by omega
   have hfin:R=-1:=by
    rw[HR.out];refine Ziu λx hx=>?_;obtain⟨j,hj,rfl⟩:=List.mem_iff_getElem.1 hx;exact HNO.out j _ (by rw[<- HLA.out];exact hj) (Yax hj)
   have HF:=Zh hfin;clear hfin;go_wp2;go_ret;exact⟨by rw[HF.out];rfl,rfl⟩
theorem Zyh (w:World) (A:Option Addr) (n c:Nat) (L:List Nm) (s:Nm) (ha:RowsSee w A n L) {r:Int} (hr:Zbb L s=r):
  Calls Tryz.prog 73 #[.slice A n c,.string ⟨s.toArray⟩] w λe w'=>e=.returned (.int .i64 r)/\w'=w:=by
 have h:=Zuw w A n c L s ha;rw[hr]at h;exact h
structure MgSee (w:World) (A:Option Addr) (n:Nat) (L:List Mg):Prop where
 len:L.length=n
 fit:n<=maxLen
 at_:∀ (i:Nat) (m:Mg),L[i]?=some m->∃ ad,A=some ad/\w.cell? (ad.add (i*3))=some (.int .i64 m.a)/\w.cell? ⟨(ad.add (i*3)).block,(ad.add (i*3)).off+1,none⟩=some (.int .i64 m.b)/\w.cell? ⟨(ad.add (i*3)).block,(ad.add (i*3)).off+2,none⟩=some (.int .i64 m.t)
 bound:∀ m∈L,(-9223372036854775808<=m.a/\m.a<=9223372036854775807)/\(-9223372036854775808<=m.b/\m.b<=9223372036854775807)/\(-9223372036854775808<=m.t/\m.t<=9223372036854775807)
theorem MgSee.below {w w':World} {A:Option Addr} {n:Nat} {L:List Mg} (h:MgSee w A n L) (hb:Below w.heap.size w w'):MgSee w' A n L:=
 ⟨h.len,h.fit,λi m hm=>by
  obtain⟨ad,h1,h2,h3,h4⟩:=h.at_ i m hm;exact⟨ad,h1,(hb.cell (Ycb w _ h2)).trans h2,(hb.cell (Ycb w _ h3)).trans h3,(hb.cell (Ycb w _ h4)).trans h4⟩,h.bound⟩
theorem Zo8 (w:World) (A:Option Addr) (n c:Nat) (L:List Mg) (ha:MgSee w A n L) (a b:Int):
  Calls Tryz.prog 72 #[.slice A n c,.int .i64 a,.int .i64 b] w λe w'=>e=.returned (.bool (Zba L a b))/\w'=w:=by
 have HA:=Zh ha;have HLA:=Zh ha.len;have hn63:n<=9223372036854775807:=ha.fit;obtain⟨R,hR⟩:=Ze (Zba L a b);rw[<- hR];have HR:=Zh hR;clear ha hR;go_enter Tryz.func72,Tryz.ntmps72;go_wp2;go_loop [7] (λi=>∃ k:Nat,k<=n/\i=.int .i64 k/\Zba (L.take k) a b=false) (λi=>n-(intOf i).toNat);case atStart=>exact⟨0,by omega,rfl,rfl⟩
 case round=>
  obtain⟨k,hk,rfl,hno⟩:=hrel;have HNO:=Zh hno;clear hno;rcases Yab k n with hlt|hge
  ·have hlt':(k:Int)<(n:Int):=by omega
   obtain⟨m,hm⟩:∃ m,L[k]?=some m:=⟨_,Yax (by rw[HLA.out];exact hlt)⟩
   obtain⟨pa,rfl,ea,eb,-⟩:=HA.out.at_ k m hm;have hup:=Zon hm a b;rw[HNO.out,Bool.false_or]at hup;have HM:=Zh hm;clear hm;by_cases h1:m.a=a
   ·have d1:(m.a==a)=true:=by simpa using h1
    by_cases h2:m.b=b
    ·have d2:(m.b==b)=true:=by simpa using h2
     have hfin:R=true:=by
      rw[HR.out];unfold Zba;rw[List.any_eq_true];exact⟨m,Ybz HM.out,by rw[d1,d2];rfl⟩
     have HF:=Zh hfin;clear h1 h2 hfin hup;go_wp2;go_ret;exact⟨by rw[HF.out];rfl,rfl⟩
    ·have d2:(m.b==b)=false:=by simpa using h2
     rw[d1,d2]at hup;have HUP:=Zh hup;clear h1 h2 hup;go_wp2;go_round;case rel=>exact⟨k+1,by omega,by go_num,HUP.out⟩
     case measure=>simp[intOf];omega
   ·have d1:(m.a==a)=false:=by simpa using h1
    rw[d1,Bool.false_and]at hup;have HUP:=Zh hup;clear h1 hup;go_wp2;go_round;case rel=>exact⟨k+1,by omega,by go_num,HUP.out⟩
    case measure=>simp[intOf];omega
  ·obtain rfl:k=n:=by omega
   have hlz:¬ ((k:Int)<(k:Int)):=by omega
   have hfin:R=false:=by
    rw[HR.out,<- HNO.out,Yav (by rw[HLA.out];exact Yar _)]
   have HF:=Zh hfin;clear hfin;go_wp2;go_ret;exact⟨by rw[HF.out];rfl,rfl⟩
theorem Zln (w:World) (A:Option Addr) (n c:Nat) (L:List Mg) (ha:MgSee w A n L) (a b:Int) {r:Bool} (hr:Zba L a b=r):
  Calls Tryz.prog 72 #[.slice A n c,.int .i64 a,.int .i64 b] w λe w'=>e=.returned (.bool r)/\w'=w:=by
 have h:=Zo8 w A n c L ha a b;rw[hr]at h;exact h
theorem Zk2:(Tryz.prog.info? 88).map (λi=>(i.zero,i.size,i.bytes))=some (some (.agg #[.int .i64 0,.int .i64 0,.int .i64 0]),3,24):=by kernel_rfl
theorem Zwv (m:Nat) (h:m<18446744073709551616):bits .and .u64 (m:Int) 127=((m % 128:Nat):Int):=by
 have:=u64_and_nat m 127 h (by decide)
 rw[nat_mask7]at this;exact this
theorem Qa0 (m:Nat) (h:m<128):bits .or .u64 (m:Int) 128=((m+128:Nat):Int):=by
 have:=u64_or_nat m 128 (by omega) (by decide)
 rw[Nat.or_comm,nat_join 7 128 m (by decide) (by omega),Nat.add_comm]at this;exact this
theorem Zsp (c:Nat) (h:c<256):bits .and .u8 (c:Int) 127=((c % 128:Nat):Int):=by
 have:=u8_and_nat c 127 h (by decide)
 rw[nat_mask7]at this;exact this
theorem Qcu (acc k c:Nat) (hacc:acc<2 ^ (7*k)) (hk:k<=9) (h9:k=9->c % 128<=1):
  bits .or .u64 (acc:Int) (IntKind.u64.wrap ((c:Int) % 128*2 ^ (7*k)))=((acc+c % 128*2 ^ (7*k):Nat):Int):=by
 have hp:2 ^ (7*k)<=2 ^ 63:=Nat.pow_le_pow_right (by omega) (by omega);have hV:c % 128*2 ^ (7*k)<18446744073709551616:=by
  rcases Yab k 9 with h|h
  ·have h1:2 ^ (7*k)<=2 ^ 56:=Nat.pow_le_pow_right (by omega) (by omega)
   have h2:=Nat.mul_le_mul (show c % 128<=127 by omega) h1;omega
  ·have h1:=Yak (2 ^ (7*k)) (h9 (by omega))
   omega
 have e:IntKind.u64.wrap ((c:Int) % 128*2 ^ (7*k))=((c % 128*2 ^ (7*k):Nat):Int):=by
  have e1:(c:Int) % 128*2 ^ (7*k)=((c % 128*2 ^ (7*k):Nat):Int):=by simp
  rw[e1];simp only[IntKind.wrap,IntKind.bits,IntKind.signed];generalize c % 128*2 ^ (7*k)=V at hV;simp;omega
 rw[e,u64_or_nat acc _ (by omega) hV,Nat.or_comm,nat_join (7*k) _ acc (Nat.mul_mod_left _ _) hacc,Nat.add_comm]
def gotV (g:Nat×Nat×Int):Value:=.tuple #[.int .u64 g.1,.int .i64 g.2.1,.int .i64 g.2.2]
theorem Zkz (a:List Int) (x:Int):∀ p,gaps p (a++[x])=gaps p a++[(x-a.getLastD p-1).toNat]:=by
 induction a with
 | nil=>intro p;rfl
 | cons y r ih=>intro p;simp only[Yac,gaps,ih y];cases r<;>rfl
theorem Zds (a:List Int) (x:Int):∀ p,Za4 p (a++[x])=(Za4 p a&&decide (a.getLastD p<x)):=by
 induction a with
 | nil=>intro p;simp[Za4]
 | cons y r ih=>intro p;simp only[Yac,Za4,ih y,Bool.and_assoc];cases r<;>rfl
theorem Zgb (a b:List Int):∀ p,Za4 p (a++b)=true->Za4 p a=true:=by
 induction a with
 | nil=>intro p _;rfl
 | cons y r ih=>intro p h;simp only[Yac,Za4,Yal]at h ⊢;exact⟨h.1,ih y h.2⟩
theorem Ziz (a:List Int):∀ p,Za4 p a=true->p<=a.getLastD p:=by
 induction a with
 | nil=>intro p _;exact Int.le_refl _
 | cons y r ih=>
  intro p h;simp only[Za4,Yal,decide_eq_true_eq]at h;have:=ih y h.2
  have e:(y :: r).getLastD p=r.getLastD y:=by cases r<;>rfl
  rw[e];omega
theorem Zyc {l:List Int} {k:Nat} {y:Int} (h:l[k]?=some y) (p:Int):(l.take (k+1)).getLastD p=y:=by
 rw[Ya5,h];simp
theorem Zcj {α:Type} {l:List α} {k:Nat} {x:α} (h:l[k]?=some x):l.take (k+1)=l.take k++[x]:=by
 rw[Ya5,h];rfl
theorem Zfz (a:List Nat) (x:Nat):Zbl (a++[x])=Zbl a++putL x:=by simp[Zbl]
theorem Zrj (a:List Nat) (h:∀ x∈a,x<2 ^ 64):(Zbl a).length<=10*a.length:=by
 induction a with
 | nil=>simp[Zbl]
 | cons x r ih=>
  have h1:=Zao x (h x (Yam ..));have h2:=ih λy hy=>h y (Yap _ hy);simp only[Zbl,Yan,Yaq,Yah]at h2 ⊢;omega
theorem Qdx (l:List Int):∀ p,-1<=p->Za4 p l=true->(∀ x∈l,x<=9223372036854775807)->∀ g∈gaps p l,g<2 ^ 64:=by
 induction l with
 | nil=>intro p _ _ _ g hg;simp[gaps]at hg
 | cons x r ih=>
  intro p hp hr hx g hg;simp only[Za4,Yal,decide_eq_true_eq]at hr;have hxm:=hx x (Yam ..);rcases Yat.1 hg with rfl|hg
  ·omega
  ·exact ih x (by omega) hr.2 (λy hy=>hx y (Yap _ hy)) g hg
def Zem (l:List Int) (k:Nat):List UInt8:=putL l.length++Zbl (gaps (-1) (l.take k))
theorem Zny {l:List Int} {k:Nat} (hk:k<=l.length) (hr:Za4 (-1) (l.take k)=true) (hx:∀ x∈l,x<=9223372036854775807) (hl:l.length<2 ^ 64):(Zem l k).length<=10+10*k:=by
 have h1:=Zao l.length hl;have h2:=Zrj _ (Qdx (l.take k) (-1) (by omega) hr λx h=>hx x (Yce h));rw[Qaw,Ycc,Yb7 hk]at h2;simp only[Zem,Yaq];omega
def Zxz (w:World) (l:List Int) (e:Ending) (w':World):Prop:=
 ∃ v n,e=.returned (.tuple #[v,.int .i64 n])/\Below w.heap.size w w'/\((Za4 (-1) l=true/\n=0/\w'.ownsRow w.heap.size 5 1 v (putR l).length ((putR l).map byteV))\/(Za4 (-1) l=false/\n=1/\v=.slice none 0 0))
theorem Zp3:(Tryz.prog.info? 2).map (λi=>(i.zero,i.size,i.bytes))=some (some (.int .i64 0),1,8):=by kernel_rfl
def Zi7 (w:World) (g:List Int×Nat×Int) (e:Ending) (w':World):Prop:=
 ∃ v,e=.returned (.tuple #[v,.int .i64 g.2.1,.int .i64 g.2.2])/\Below w.heap.size w w'/\w'.ownsRow w.heap.size 2 1 v g.1.length (g.1.map i64V)
theorem gerr {w w':World} {g:List Int×Nat×Int} {e:Int} (h:g=([],0,e)) (hb:Below w.heap.size w w'):Zi7 w g (.returned (.tuple #[.slice none 0 0,.int .i64 0,.int .i64 e])) w':=by
 subst h;exact⟨_,rfl,hb,⟨rfl,.inl ⟨rfl,rfl⟩⟩⟩
theorem gok {w w':World} {g:List Int×Nat×Int} {l:List Int} {k:Nat} {v:Value} (h:g=(l,k,0)) (hb:Below w.heap.size w w') (ho:w'.ownsRow w.heap.size 2 1 v l.length (l.map i64V)):Zi7 w g (.returned (.tuple #[v,.int .i64 k,.int .i64 0])) w':=by
 subst h;exact⟨_,rfl,hb,ho⟩
end
section
open Go.RowKit Go.Maps Go.WideMaps Go.ChangeShapes Go.WideShapes Go.ChangeAt Go.Deep
theorem RowsSee.upto {w:World} {A:Option Addr} {n:Nat} {L:List Nm} (h:RowsSee w A n L) (p:Nat) (hp:p<=n):RowsSee w A p (L.take p):=
 ⟨by rw[Ycc,h.len];omega,Ybu hp h.fit,λi x hx=>by
  rw[Yci]at hx;split at hx
  ·exact h.at_ i x hx
  ·cases hx⟩
theorem Qdn (w:World) (A:Option Addr) (n c p:Nat) (h:p<=c):(Instr.slice 27 (.slice A n c) none (some (.int .i64 p)) none).run Tryz.prog w=.ok (.slice A p c) w:=by
 obtain⟨i0,hi,hz0,hz1,hz2⟩:=info_parts Zgf;rw[run_slice_h (P:=Tryz.prog) (w:=w) 27 A n c Tryz.underlying27 .i64 p (by omega) (by omega)];have he:Tryz.prog.elem 27=24:=by kernel_rfl
 rw[he];have hs:(sizeOf 24).run Tryz.prog w=Result.ok i0.size w:=by
  rw[run_sizeOf w hi];unfold Program.cellsOf;rw[hi];rfl
 rw[hs];simp[Result.andThen,sliced,Addr.add]
section
variable {H:Type} {enc:TypeId×Value->H} {w:World}
end
end
section
open Go.RowKit Go.Maps Go.WideMaps
theorem Ze8 (w:World) (A:Option Addr) (n c:Nat) (l:Nm) (hl:BytesIn w A n l):
  Calls Tryz.prog 109 #[.slice A n c] w λe w'=>e=.returned (gotV (getL l))/\w'=w:=by
 have HL:=Zh hl;have hln:l.length=n:=by have:=hl.2.1.len;simpa using this
 have HLN:=Zh hln;clear hl hln;have hn63:n<=9223372036854775807:=HL.out.1;go_enter Tryz.func109,Tryz.ntmps109;go_wp2;go_loop [5,6] (λa i=>∃ acc k:Nat,k<=9/\a=.int .u64 acc/\i=.int .i64 k/\acc<2 ^ (7*k)/\k<=n/\Zdg k acc (l.drop k)=getL l) (λ_ i=>10-(intOf i).toNat);case atStart=>exact⟨0,0,by omega,rfl,rfl,by omega,by omega,rfl⟩
 case round=>
  obtain⟨acc,k,hk,rfl,rfl,hacc,hkn,hg⟩:=hrel;have HG:=Zh hg;have HACC:=Zh hacc;clear hg hacc;have hk10:(k:Int)<10:=by omega
  rcases Yab k n with hlt|hge
  ·have hlt':¬ (k:Int) ≥ (n:Int):=by omega
   obtain⟨ad,x,rfl,hx,hcx⟩:=HL.out.at k hlt;have hx8:=x.toNat_lt;have HX:=Zh hx;clear hx;have a1:=Zsp x.toNat (by omega);have hdrop:l.drop k=x :: l.drop (k+1):=by
    obtain⟨h1,h2⟩:=Ybb.1 HX.out;rw[<- h2,List.getElem_cons_drop]
   have HD:=Zh hdrop;clear hdrop;by_cases hbad:(k=9/\1<x.toNat)\/(x.toNat=0/\0<k)
   ·have hend:getL l=(0,0,32):=by
     rw[<- HG.out,HD.out];simp only[Zdg];rw[Yag hbad]
    rw[hend];rcases hbad with⟨h9,h1⟩|⟨h1,h2⟩
    ·have h9b:((k:Int)==9)=true:=by rw[h9];rfl
     have h1z:(1:Int)<(x.toNat:Int):=by omega
     clear h9;go_wp2;go_ret3;exact⟨rfl,rfl⟩
    ·have h1b:((x.toNat:Int)==0)=true:=by rw[h1];rfl
     have h1z:¬ (1:Int)<(x.toNat:Int):=by omega
     have h2z:(0:Int)<(k:Int):=by omega
     clear h1;by_cases h9:k=9
     ·have h9b:((k:Int)==9)=true:=by rw[h9];rfl
      clear h9;go_wp2;go_ret3;exact⟨rfl,rfl⟩
     ·have h9b:((k:Int)==9)=false:=by simp;omega
      go_wp2;go_ret3;exact⟨rfl,rfl⟩
   ·have h91:k=9->x.toNat<=1:=λe=>by
     rcases Yab 1 x.toNat with h|h
     ·exact absurd (Or.inl ⟨e,h⟩) hbad
     ·exact h
    have h0k:0<k->0<x.toNat:=λe=>by
     rcases Yai x.toNat with h|h
     ·exact absurd (Or.inr ⟨h,e⟩) hbad
     ·exact h
    have hsh:=Qcu acc k x.toNat HACC.out hk (λe=>by have:=h91 e;omega);obtain⟨acc',hacc'⟩:=Ze (acc+x.toNat % 128*2 ^ (7*k));rw[<- hacc']at hsh;have HA:=Zh hacc';have HBAD:=Zh hbad;have H91:=Zh h91;have H0K:=Zh h0k;clear hacc' hbad h91 h0k;have hres:x.toNat<128->getL l=(acc',k+1,0):=λhs=>by
     rw[<- HG.out,HD.out];simp only[Zdg];rw[Yaf HBAD.out,Yag hs,HA.out]
    have hnext:128<=x.toNat->acc'<2 ^ (7*(k+1))/\Zdg (k+1) acc' (l.drop (k+1))=getL l/\k+1<=9:=λhs=>by
     refine⟨?_,?_,?_⟩
     ·rw[HA.out,pow7]
      have h1:=HACC.out;have h2:x.toNat % 128+1<=128:=by omega
      have h3:=Yak (2 ^ (7*k)) h2;rw[Nat.add_mul]at h3;omega
     ·rw[<- HG.out,HD.out]
      simp only[Zdg];rw[Yaf HBAD.out,Yaf (by omega),HA.out]
     ·rcases Yab k 9 with h|h
      ·exact h
      ·have:=H91.out (by omega)
       omega
    have HRES:=Zh hres;have HNX:=Zh hnext;clear hres hnext;have fin1:∀ hs:x.toNat<128,Ending.returned (.tuple #[.int .u64 acc',.int .i64 ((k:Int)+1),.int .i64 0])=.returned (gotV (getL l)):=λhs=>by
     rw[HRES.out hs];rfl
    have HF:=Zh fin1;clear fin1;by_cases h9:k=9
    ·have h9b:((k:Int)==9)=true:=by rw[h9];rfl
     have h1z:¬ (1:Int)<(x.toNat:Int):=by have:=H91.out h9;omega
     have hc0:((x.toNat:Int)==0)=false:=by have:=H0K.out (by omega);simp;omega
     have hs:x.toNat<128:=by have:=H91.out h9;omega
     have hsz:(x.toNat:Int)<128:=by omega
     clear h9;go_wp2;go_ret3;exact⟨HF.out hs,rfl⟩
    ·have h9b:((k:Int)==9)=false:=by simp;omega
     by_cases hc0:x.toNat=0
     ·have hk0:k=0:=by
       rcases Yai k with h|h
       ·exact h
       ·have:=H0K.out h;omega
      have hc0b:((x.toNat:Int)==0)=true:=by rw[hc0];rfl
      have hk0z:¬ (0:Int)<(k:Int):=by omega
      have hs:x.toNat<128:=by omega
      have hsz:(x.toNat:Int)<128:=by omega
      clear hc0 hk0;go_wp2;go_ret3;exact⟨HF.out hs,rfl⟩
     ·have hc0b:((x.toNat:Int)==0)=false:=by simp;omega
      rcases Yab x.toNat 128 with hs|hs
      ·have hsz:(x.toNat:Int)<128:=by omega
       go_wp2;go_ret3;exact⟨HF.out hs,rfl⟩
      ·have hsz:¬ (x.toNat:Int)<128:=by omega
       obtain⟨n1,n2,n3⟩:=HNX.out hs;have N1:=Zh n1;have N2:=Zh n2;clear n1 n2;go_wp2;exact⟨⟨acc',k+1,n3,rfl,by go_num,N1.out,by omega,N2.out⟩,by simp[intOf];omega⟩
  ·have hlt':(k:Int) ≥ (n:Int):=by omega
   have hend:getL l=(0,0,31):=by rw[<- HG.out,List.drop_of_length_le (by rw[HLN.out];exact hge)];rfl
   rw[hend];go_wp2;go_ret3;exact⟨rfl,rfl⟩
theorem Zik (w:World) (A:Option Addr) (n c:Nat) (l:Nm) (hl:BytesIn w A n l) {v j:Nat} {e:Int} (hg:getL l=(v,j,e)):
  Calls Tryz.prog 109 #[.slice A n c] w λe2 w'=>e2=.returned (.tuple #[.int .u64 v,.int .i64 j,.int .i64 e])/\w'=w:=by
 have h:=Ze8 w A n c l hl;rw[hg]at h;exact h
theorem Zcc (w:World) (n:Nat) (hn:n<18446744073709551616):
  Calls Tryz.prog 45 #[.int .u64 n] w λe w'=>∃ v,e=.returned v/\w'.ownsRow w.heap.size 5 1 v (putL n).length ((putL n).map byteV)/\Below w.heap.size w w':=by
 obtain⟨i0,hi,hz0,hz1,hz2⟩:=info_parts Za9;go_enter Tryz.func45,Tryz.ntmps45;go_wp2;go_loopw [0,3] (λs v wr=>∃ (m:Nat) (xs:Nm),s=.int .u64 m/\m<=n/\xs++putL m=putL n/\Below w.heap.size w wr/\wr.ownsRow w.heap.size 5 1 v xs.length (xs.map byteV)) (λs _ _=>(intOf s).toNat);case atStart=>exact⟨n,[],rfl,Yar _,rfl,Ybm _ _,⟨rfl,.inl ⟨rfl,rfl⟩⟩⟩
 case round=>
  obtain⟨m,xs,rfl,hm,hx,hB,hO⟩:=hrel;have HX:=Zh hx;have HB:=Zh hB;have HO:=Zh hO;clear hx hB hO;have hlen:xs.length<=10:=by
   have h1:=Zao n (by omega);rw[<- HX.out,Yaq]at h1;omega
  obtain⟨Av,cv,hv⟩:=Zac HO.out;subst hv;rcases Yab m 128 with hs|hb
  ·have hsz:¬ (m:Int) ≥ 128:=by omega
   obtain⟨x,rfl⟩:∃ x:UInt8,m=x.toNat:=⟨UInt8.ofNat m,(Zau (by omega)).symm⟩
   have hmz:(x.toNat:Int) % 256=(x.toNat:Int):=by omega
   have hfin:putL n=xs++[x]:=by rw[<- HX.out,Zez hs];simp
   have HF:=Zh hfin;clear hfin;go_wp2_with (at_builtin;refine Zae _ rfl (.tmp 15) (.tmp 18) 24 rfl w.heap.size 5 i0 (.int .u8 0) 1 Tryz.underlying24 hi hz0 hz1 hz2 rfl _ xs.length _ rfl (Ze4 HO.out _) _ 1 1 _ rfl (Zm4 wr x) (Zbm [x]) (by unfold maxLen;omega) (by omega) (by have:=HB.out.size;simp;omega) ?_;intro v w2 hown hgrow _;have HO2:=Zh hown;have HB2:=Zh ((HB.out.alloc HB.out.size _).grown hgrow (by have:=HB.out.size;simp;omega) (λg hg=>(HO.out.lt g hg).1));clear hown hgrow);go_ret;refine⟨_,rfl,?_,HB2.out⟩;rw[HF.out,Yaq,Ybe];exact HO2.out
  ·have hbz:(m:Int) ≥ 128:=by omega
   have h1:=Zwv m (by omega);obtain⟨q,hq⟩:=Ze (m % 128+128);obtain⟨x,hxq⟩:=Ze (UInt8.ofNat q);have h2:bits .or .u64 ((m:Int) % 128) 128=(q:Int):=by
    rw[show(m:Int) % 128=((m % 128:Nat):Int) by omega,Qa0 (m % 128) (by omega),hq]
   have h3:(q:Int) % 256=(x.toNat:Int):=by rw[hxq,Zau (by omega)];omega
   have hnx:(xs++[x])++putL (m/128)=putL n:=by
    rw[<- HX.out,Zii (n:=m) (by omega),hxq,hq,Yao];rfl
   have HN:=Zh hnx;clear hnx hxq hq;go_wp2_with (at_builtin;refine Zae _ rfl (.tmp 6) (.tmp 11) 24 rfl w.heap.size 5 i0 (.int .u8 0) 1 Tryz.underlying24 hi hz0 hz1 hz2 rfl _ xs.length _ rfl (Ze4 HO.out _) _ 1 1 _ rfl (Zm4 wr x) (Zbm [x]) (by unfold maxLen;omega) (by omega) (by have:=HB.out.size;simp;omega) ?_;intro v w2 hown hgrow _);have HO2:=Zh hown;have HB2:=Zh ((HB.out.alloc HB.out.size _).grown hgrow (by have:=HB.out.size;simp;omega) (λg hg=>(HO.out.lt g hg).1));clear hown hgrow;refine⟨⟨m/128,xs++[x],by go_num,by omega,HN.out,HB2.out,?_⟩,?_⟩
   ·rw[Yaq,Ybe]
    exact HO2.out
   ·simp[intOf]
    omega
theorem Zqv:∃ f g:Field,Tryz.prog.fieldsOf 49=#[f,g]/\f.name≠"_"/\g.name≠"_"/\f.type=9/\g.type=9/\f.offset=0/\g.offset=1:=
 ⟨_,_,rfl,by decide,by decide,rfl,rfl,rfl,rfl⟩
theorem Qfi (p q:Nm×Nm) {r:Bool} (h:decide (p=q)=r) (w:World):(binOp .neq 49 (.agg #[.string ⟨p.1.toArray⟩,.string ⟨p.2.toArray⟩]) (.agg #[.string ⟨q.1.toArray⟩,.string ⟨q.2.toArray⟩])).run Tryz.prog w=.ok (.bool (!r)) w:=by
 have hpq:decide (p=q)=(decide (p.1=q.1)&&decide (p.2=q.2)):=by
  rw[Bool.eq_iff_iff];simp[Prod.ext_iff]
 subst h;rw[hpq];obtain⟨f,g,h1,h2,h3,h4,h5,h6,h7⟩:=Zqv;rw[run_neq_struct,run_equalIn_struct w 9999 49 _ _ rfl (by kernel_rfl),h1];have he:∀ a b:Nm,∀ w:World,(Op.equalIn 9999 9 (.string ⟨a.toArray⟩) (.string ⟨b.toArray⟩)).run Tryz.prog w=.ok (decide (a=b)) w:=λa b w=>by
  rw[run_equalIn_string w 9998 9 _ _ Tryz.underlying9,Qdj]
 simp only[Op.eqFields,h4,h5,h6,h7,Yag h2,Yag h3];simp[part,he];cases hA:decide (p.1=q.1)<;>cases hB:decide (p.2=q.2)<;>simp_all
theorem Qco (w:World) (p:Option Addr):(binOp .eql 38 (.pointer p) (.pointer none)).run Tryz.prog w=.ok (.bool p.isNone) w/\(binOp .neq 38 (.pointer p) (.pointer none)).run Tryz.prog w=.ok (.bool (!p.isNone)) w:=by
 have h:∀ d:Nat,(Op.equalIn (d+1) 38 (.pointer p) (.pointer none)).run Tryz.prog w=.ok p.isNone w:=λd=>by
  cases p<;>simp[Op.equalIn,run_underlying Tryz.underlying38]
 simp only[binOp];simp[Op.equal,Op.maxDepth,h 9999]
theorem Qdi (w:World) (p:Option Addr):(binOp .eql 41 (.pointer p) (.pointer none)).run Tryz.prog w=.ok (.bool p.isNone) w:=by
 have h:∀ d:Nat,(Op.equalIn (d+1) 41 (.pointer p) (.pointer none)).run Tryz.prog w=.ok p.isNone w:=λd=>by
  cases p<;>simp[Op.equalIn,run_underlying Tryz.underlying41]
 simp only[binOp];simp[Op.equal,Op.maxDepth,h 9999]
theorem Qb5 (w:World) (p:Option Addr):(binOp .eql 35 (.pointer p) (.pointer none)).run Tryz.prog w=.ok (.bool p.isNone) w/\(binOp .neq 35 (.pointer p) (.pointer none)).run Tryz.prog w=.ok (.bool (!p.isNone)) w:=by
 have h:∀ d:Nat,(Op.equalIn (d+1) 35 (.pointer p) (.pointer none)).run Tryz.prog w=.ok p.isNone w:=λd=>by
  cases p<;>simp[Op.equalIn,run_underlying Tryz.underlying35]
 simp only[binOp];simp[Op.equal,Op.maxDepth,h 9999]
theorem Zr6 (w:World) (p:Option Addr):(binOp .eql 58 (.pointer p) (.pointer none)).run Tryz.prog w=.ok (.bool p.isNone) w/\(binOp .neq 58 (.pointer p) (.pointer none)).run Tryz.prog w=.ok (.bool (!p.isNone)) w:=by
 have h:∀ d:Nat,(Op.equalIn (d+1) 58 (.pointer p) (.pointer none)).run Tryz.prog w=.ok p.isNone w:=λd=>by
  cases p<;>simp[Op.equalIn,run_underlying Tryz.underlying58]
 simp only[binOp];simp[Op.equal,Op.maxDepth,h 9999]
theorem Ze3 (w:World) (A:Option Addr) (n c:Nat) (l:Nm) (hl:BytesIn w A n l) (hn:n<=140737488355328):
  Calls Tryz.prog 40 #[.slice A n c] w λe w'=>∃ v,e=.returned v/\w'.ownsRow w.heap.size 5 1 v n (l.map byteV)/\Below w.heap.size w w':=by
 obtain⟨i0,hi,hz0,hz1,hz2⟩:=info_parts Za9;have q22:∀ (w:World) (a:Option Addr) (n c n' c':Nat),(binOp .eql 24 (.slice a n c) (.slice none n' c')).run Tryz.prog w=.ok (.bool a.isNone) w:=λw a n c n' c'=>Lib.run_eql_slice_nil w _ _ a n c n' c' Tryz.underlying24;cases A with
 | none=>
  have h0:=hl.2.1.nil rfl;have hx:l=[]:=Ya0 (by have:=hl.2.1.len;simp at this;omega);subst h0 hx;clear hl;go_enter Tryz.func40,Tryz.ntmps40;go_wp2;go_ret;exact⟨_,rfl,⟨rfl,.inl ⟨rfl,rfl⟩⟩,Ybm _ _⟩
 | some ad=>
  have HL:=Zh (BytesIn.below hl ((Ybm _ w).alloc (Yar _) (.cells #[] 5)));clear hl;go_enter Tryz.func40,Tryz.ntmps40;go_wp2_with (at_builtin;refine Zae _ rfl (.tmp 5) (.tmp 6) 24 rfl w.heap.size 5 i0 (.int .u8 0) 1 Tryz.underlying24 hi hz0 hz1 hz2 rfl _ 0 [] rfl (Ybx w #[] 0 (Yar _) (Ybd _) rfl) (some ad) n c (l.map byteV) rfl HL.out.2.1 (Zbm l) (by unfold maxLen;omega) (by omega) (by simp) ?_;intro v w2 hown hgrow hloc;rw[Ya4,Yad]at hown;have HO:=Zh hown;have HB:Hid (Below w.heap.size w w2):=Zh ((((Ybm _ w).alloc (Yar _) (.cells #[] 5)).grown hgrow (by simp) (λk e=>by cases e;exact Yar _)));clear hown hgrow hloc);go_ret;exact⟨_,rfl,HO.out,HB.out⟩
def RowsG (w:World) (base:Nat) (v:Value) (L:List Nm):Prop:=
 ∃ svs:List Value,w.ownsRow base 24 1 v L.length svs/\∀ (i:Nat) (sv:Value) (x:Nm),svs[i]?=some sv->L[i]?=some x->∃ A c,sv=.slice A x.length c/\x.length<=c/\BytesIn w A x.length x/\∀ ad,A=some ad->0<x.length->base<=ad.block/\v.ownBlock≠some ad.block
theorem RowsG.nil (w:World) (base:Nat):RowsG w base (.slice none 0 0) []:=⟨[],⟨rfl,.inl ⟨rfl,rfl⟩⟩,λi sv x h _=>by simp at h⟩
theorem RowsG.rows {w:World} {base b:Nat} {v:Value} {L:List Nm} (h:RowsG w base v L) (hb:b<=base):RowsAt w b v L:=by
 obtain⟨svs,h1,h2⟩:=h;refine⟨svs,Go.Joins.ownsRow_le h1 hb,λi sv x e1 e2=>?_⟩;obtain⟨A,c,h3,h4,h5,h6⟩:=h2 i sv x e1 e2;exact⟨A,c,h3,h4,h5,λad e h0=>(h6 ad e h0).2⟩
theorem RowsG.keep {w w':World} {base:Nat} {v:Value} {L:List Nm} (h:RowsG w base v L) (hb:∀ i,base<=i->i<w.heap.size->w'.heap[i]?=w.heap[i]?) (hs:w.heap.size<=w'.heap.size):RowsG w' base v L:=by
 obtain⟨svs,h1,h2⟩:=h;refine⟨svs,Zab h1 λg hg=>hb g (h1.lt g hg).1 (h1.lt g hg).2,λi sv x e1 e2=>?_⟩;obtain⟨A,c,h3,h4,h5,h6⟩:=h2 i sv x e1 e2;exact⟨A,c,h3,h4,⟨h5.1,h5.2.1.keep λad e hn=>hb _ (h6 ad e hn).1 (h5.2.2 ad e hn),λad e hn=>Ya7 (h5.2.2 ad e hn) hs⟩,h6⟩
theorem RowsG.below {w w':World} {base:Nat} {v:Value} {L:List Nm} (h:RowsG w base v L) (hb:Below w.heap.size w w'):RowsG w' base v L:=h.keep (λi _ hi=>hb.block i hi) hb.size
theorem RowsG.push {w w':World} {base:Nat} {v v' sv:Value} {L:List Nm} {x:Nm} {svs:List Value}
  (h2:∀ (i:Nat) (sv:Value) (x:Nm),svs[i]?=some sv->L[i]?=some x->∃ A c,sv=.slice A x.length c/\x.length<=c/\BytesIn w A x.length x/\∀ ad,A=some ad->0<x.length->base<=ad.block/\v.ownBlock≠some ad.block)
  (hl:svs.length=L.length) (hs:Holds1 w sv x) (hap:∀ A c ad,sv=.slice A x.length c->A=some ad->0<x.length->base<=ad.block/\v.ownBlock≠some ad.block)
  (ho:w'.ownsRow base 24 1 v' (L.length+1) (svs++[sv])) (hg:w.grownBy w' v.ownBlock) (hloc:v'.ownBlock=v.ownBlock\/∃ g,v'.ownBlock=some g/\w.heap.size<=g):RowsG w' base v' (L++[x]):=by
 have keep:∀ {A:Option Addr} {y:Nm},BytesIn w A y.length y->(∀ ad,A=some ad->0<y.length->base<=ad.block/\v.ownBlock≠some ad.block)->BytesIn w' A y.length y/\∀ ad,A=some ad->0<y.length->base<=ad.block/\v'.ownBlock≠some ad.block:=by
  intro A y hb hn;refine⟨⟨hb.1,hb.2.1.keep λad e h0=>hg.block _ (hb.2.2 ad e h0) (λe2=>(hn ad e h0).2 e2.symm),λad e h0=>Ya7 (hb.2.2 ad e h0) hg.size⟩,λad e h0=>⟨(hn ad e h0).1,?_⟩⟩;rcases hloc with h|⟨g,h,hge⟩
  ·rw[h];exact(hn ad e h0).2
  ·rw[h]
   intro e2;have h3:=hb.2.2 ad e h0;have h4:g=ad.block:=Ya9 e2;omega
 refine⟨svs++[sv],by simpa using ho,λi sv' y e1 e2=>?_⟩;rcases Yab i L.length with hi|hi
 ·rw[Yba (by omega)]at e1 e2
  obtain⟨A,c,h3,h4,h5,h6⟩:=h2 i sv' y e1 e2;obtain⟨k1,k2⟩:=keep h5 h6;exact⟨A,c,h3,h4,k1,k2⟩
 ·have hlt:=(Ybb.1 e2).1
  simp at hlt;obtain rfl:i=L.length:=by omega
  rw[Ybc (by omega)]at e1 e2;simp[hl]at e1 e2;subst e1 e2;obtain⟨A,c,h3,h4,h5⟩:=hs;obtain⟨k1,k2⟩:=keep h5 λad e h0=>hap A c ad h3 e h0;exact⟨A,c,h3,h4,k1,k2⟩
theorem Zfv (w:World) (A:Option Addr) (n c:Nat) (l:List (Nm×Nm)) (hl:DocsIn w A n l):
  Calls Tryz.prog 18 #[.slice A n c] w λe w'=>e=.returned (.bool (decide (Zb1 l)))/\∃ q,w'=w.drewN q:=by
 obtain⟨R,hR⟩:=Ze (decide (Zb1 l));rw[<- hR];have HR:=Zh hR;have HL:=Zh hl;have hn:=hl.len;have hn63:n<=9223372036854775807:=hl.fit;have HN:=Zh hn;clear hR hl;by_cases h64:64<n
 ·have d1:decide ((64:Int)<(n:Int))=true:=by simp;omega
  have hbad:¬ Zb1 l:=λe=>by have:=e.1;omega
  have HB:=Zh hbad;clear hbad hn;go_enter Tryz.func18,Tryz.ntmps18;go_wp2;go_ret;exact⟨by rw[HR.out,Ybt HB.out];rfl,0,rfl⟩
 have d1:decide ((64:Int)<(n:Int))=false:=by simp;omega
 clear hn;go_enter Tryz.func18,Tryz.ntmps18;go_wp2;go_loopw [3] (λi wr=>∃ k q:Nat,k<=n/\i=.int .i64 k/\wr=w.drewN q/\Qfb l k) (λi _=>n-(intOf i).toNat);case atStart=>exact⟨0,0,by omega,rfl,rfl,λi p h=>by omega⟩
 case round=>
  obtain⟨k,q,hk,rfl,rfl,hs⟩:=hrel;have HS:=Zh hs;clear hs;rcases Yab k n with hlt|hge
  ·have hlt':(k:Int)<(n:Int):=by omega
   have p0:(0:Int)<=(k:Int):=by omega
   obtain⟨ad,p,rfl,hp,e1,e2,hv1,hv2⟩:=HL.out.at k hlt;have e1':∀ q,(w.drewN q).cell? (ad.add (k*2))=some (.string ⟨p.1.toArray⟩):=λ_=>e1;have e2':∀ q,(w.drewN q).cell? ⟨(ad.add (k*2)).block,(ad.add (k*2)).off+1,none⟩=some (.string ⟨p.2.toArray⟩):=λ_=>e2;obtain⟨pk,pt⟩:=p;simp only at e1' e2' hv1 hv2;unfold maxLen at hv1 hv2;have HP:=Zh hp;have z1:=Zcb pk;have z2:=Zcb pt;clear hp e1 e2;by_cases b1:pk.length<1
   ·have f1:decide ((pk.length:Int)<1)=true:=Yb0 (by omega)
    have HB:=Zh (Zh0 HP.out (λe=>by have:=e.1;simp only at this;omega));clear b1;go_wp2;go_ret;exact⟨by rw[HR.out,Ybt HB.out];rfl,_,rfl⟩
   have f1:decide ((pk.length:Int)<1)=false:=Ybt (by omega);by_cases b2:32<pk.length
   ·have f2:decide ((32:Int)<(pk.length:Int))=true:=Yb0 (by omega)
    have HB:=Zh (Zh0 HP.out (λe=>by have:=e.2.1;simp only at this;omega));clear b1 b2;go_wp2;go_ret;exact⟨by rw[HR.out,Ybt HB.out];rfl,_,rfl⟩
   have f2:decide ((32:Int)<(pk.length:Int))=false:=Ybt (by omega);by_cases b3:4096<pt.length
   ·have f3:decide ((4096:Int)<(pt.length:Int))=true:=Yb0 (by omega)
    have HB:=Zh (Zh0 HP.out (λe=>by have:=e.2.2;simp only at this;omega));clear b1 b2 b3;go_wp2;go_ret;exact⟨by rw[HR.out,Ybt HB.out];rfl,_,rfl⟩
   have f3:decide ((4096:Int)<(pt.length:Int))=false:=Ybt (by omega);have HOK:Hid (Zf8 (pk,pt)):=Zh ⟨by show 1<=pk.length;omega,by show pk.length<=32;omega,by show pt.length<=4096;omega⟩;clear b1 b2 b3;go_wp2;go_loopw [4] (λi wr=>∃ j q:Nat,j<=k/\i=.int .i64 j/\wr=w.drewN q/\∀ (i:Nat) (p:Nm×Nm),i<j->l[i]?=some p->p.1≠pk) (λi _=>k-(intOf i).toNat);case atStart=>exact⟨0,q,by omega,rfl,rfl,λi p h=>by omega⟩
   case round=>
    obtain⟨j,q2,hj,rfl,rfl,hs2⟩:=hrel;have HS2:=Zh hs2;clear hs2;rcases Yab j k with hjk|hge
    ·have hjk':(j:Int)<(k:Int):=by omega
     have hjn':(j:Int)<(n:Int):=by omega
     have p1:(0:Int)<=(j:Int):=by omega
     obtain⟨ad2,p,ead,hp2,e3,-,-,-⟩:=HL.out.at j (by omega);obtain rfl:ad=ad2:=Ya9 ead;have e3':∀ q,(w.drewN q).cell? (ad.add (j*2))=some (.string ⟨p.1.toArray⟩):=λ_=>e3;obtain⟨qk,qt⟩:=p;simp only at e3';have HP2:=Zh hp2;clear hp2 e3 ead;by_cases hx:qk=pk
     ·have hbad:=Zwh HP.out HP2.out hjk hx
      have HB:=Zh hbad;have dd:(qk==pk)=true:=by simpa using hx
      clear hx hbad;go_wp2_with fail;go_quiet (fail);go_wp2;go_ret;exact⟨by rw[HR.out,Ybt HB.out];rfl,_,Ybs _ _ _⟩
     ·have dd:(qk==pk)=false:=by simpa using hx
      have HX:=Zh hx;clear hx;go_wp2_with fail;go_quiet (fail);go_wp2;refine⟨⟨j+1,_,by omega,by go_num,rfl,λi p hi hpi=>?_⟩,by simp[intOf];omega⟩;rcases Yab i j with h|h
      ·exact HS2.out i p h hpi
      ·obtain rfl:i=j:=by omega
       have:=HP2.out.symm.trans hpi
       cases this
       exact HX.out
    ·obtain rfl:j=k:=by omega
     have hlz:¬ ((j:Int)<(j:Int)):=by omega
     go_wp2;go_roundw;case rel=>
      refine⟨j+1,_,by omega,by go_num,rfl,λi p hi hpi=>?_⟩;rcases Yab i j with h|h
      ·exact HS.out i p h hpi
      ·obtain rfl:i=j:=by omega
       have:=HP.out.symm.trans hpi
       cases this
       exact⟨HOK.out,HS2.out⟩
     case measure=>simp[intOf];omega
  ·obtain rfl:k=n:=by omega
   have hlz:¬ ((k:Int)<(k:Int)):=by omega
   have HG:=Zh (Qaf (by rw[HN.out];omega) (by rw[HN.out];exact HS.out));go_wp2;go_ret;exact⟨by rw[HR.out,Yb0 HG.out];rfl,_,rfl⟩
theorem Zm8 (s:Nat) (h:s<4294967296):bits .xor .u32 IntKind.u32.max (s:Int)=((all1 ^^^ s:Nat):Int):=u32_xor_nat 4294967295 s (by decide) h
theorem Zsb {l:Nm} {k:Nat} {x:UInt8} (r:Nat) (h:l[k]?=some x):reg r (l.take (k+1))=step (reg r (l.take k)) x:=by
 rw[Ya5,h];simp only[Option.toList,Zuc];rfl
theorem Zrn (w:World) (s:Nat) (hs:s<4294967296) (A:Option Addr) (n c:Nat) (l:Nm) (hl:BytesIn w A n l):
  Calls Tryz.prog 139 #[.int .u32 s,.slice A n c] w λe w'=>e=.returned (.int .u32 (Qbt s l))/\Below w.heap.size w w':=by
 have hinv:=Zm8 s hs;have hsg:IntKind.u32.signed=false:=rfl;have hr0:all1 ^^^ s<4294967296:=Ztv hs;have hln:l.length=n:=by have:=hl.2.1.len;simpa using this
 have HL:=Zh hl;have HLN:=Zh hln;clear hl hln;go_enter Tryz.func139,Tryz.ntmps139;go_wp2;clear hinv;go_loop [5,6] (λr i=>∃ k:Nat,k<=n/\i=.int .i64 k/\r=.int .u32 (reg (all1 ^^^ s) (l.take k))) (λ_ i=>n-(intOf i).toNat);case atStart=>exact⟨0,by omega,rfl,by simp[reg]⟩
 case round=>
  obtain⟨k,hk,rfl,rfl⟩:=hrel;rcases Yab k n with hlt|hge
  ·have hlt':(k:Int)<(n:Int):=by omega
   have hn63:n<=9223372036854775807:=HL.out.1;obtain⟨ad,hA⟩:∃ ad,A=some ad:=by
    cases hA:A with
    | none=>have:=HL.out.2.1.nil hA;omega
    | some ad=>exact⟨ad,rfl⟩
   subst hA;obtain⟨x,hx⟩:∃ x,l[k]?=some x:=⟨l[k]'(by rw[HLN.out];exact hlt),Yax _⟩
   have hcx:=HL.out.2.1.cells ad rfl k (byteV x) (by rw[Ych,hx];rfl);unfold byteV at hcx;obtain⟨R,hR⟩:=Ze (reg (all1 ^^^ s) (l.take k));have hR32:R<4294967296:=by rw[hR];exact Zn3 hr0 _
   rw[<- hR];have hx8:=x.toNat_lt;have hxo:bits .xor .u32 (R:Int) (x.toNat:Int)=((R ^^^ x.toNat:Nat):Int):=u32_xor_nat _ _ hR32 (by omega);have hxl:R ^^^ x.toNat<4294967296:=Ztm hR32 (by omega);obtain⟨X,hX⟩:=Ze (R ^^^ x.toNat);rw[<- hX]at hxo hxl;have HX2:=Zh hX;have HR:=Zh hR;have HX:=Zh hx;clear hR hx hX;obtain⟨blk,off,sp⟩:=ad;go_wp2;go_loop [5,7] (λr i=>∃ j:Nat,j<=8/\i=.int .i64 j/\r=.int .u32 (Zbo j X)) (λ_ i=>8-(intOf i).toNat);case atStart=>exact⟨0,by omega,rfl,rfl⟩
   case round=>
    obtain⟨j,hj,rfl,rfl⟩:=hrel;rcases Yab j 8 with hj8|hj8
    ·have hj8':(j:Int)<8:=by omega
     obtain⟨Y,hY⟩:=Ze (Zbo j X);have hY32:Y<4294967296:=by rw[hY];exact Zkc j hxl
     rw[<- hY];have hst:Zbo (j+1) X=Zd4 Y:=by rw[hY];rfl
     have HST:=Zh hst;clear hst hY;have hand:bits .and .u32 (Y:Int) 1=((Y % 2:Nat):Int):=by
      have:=u32_and_nat Y 1 hY32 (by decide)
      rw[nat_mask1]at this;exact this
     rcases Nat.mod_two_eq_zero_or_one Y with h0|h1
     ·rw[h0]at hand
      go_wp2;refine⟨⟨j+1,by omega,by go_num,?_⟩,by simp[intOf];omega⟩;rw[HST.out];unfold Zd4;rw[Yaf (by omega)];go_num
     ·rw[h1]at hand
      have hxp:bits .xor .u32 ((Y:Int)/2) 3988292384=((Y/2 ^^^ poly:Nat):Int):=by
       rw[show(Y:Int)/2=((Y/2:Nat):Int) by omega];exact u32_xor_nat _ _ (by omega) (by decide)
      go_wp2;refine⟨⟨j+1,by omega,by go_num,?_⟩,by simp[intOf];omega⟩;rw[HST.out];unfold Zd4;rw[Yag h1]
    ·obtain rfl:j=8:=by omega
     have hj8':¬ (((8:Nat):Int)<8):=by omega
     have hst:Zbo 8 X=step R x:=by rw[HX2.out];rfl
     rw[hst];clear hst;go_wp2;refine⟨⟨k+1,by omega,by go_num,?_⟩,by simp[intOf];omega⟩;rw[Zsb _ HX.out,<- HR.out]
  ·obtain rfl:k=n:=by omega
   have hlz:¬ ((k:Int)<(k:Int)):=by omega
   have hrl:l.take k=l:=Yav (by rw[HLN.out];exact Yar _);rw[hrl];have hinv2:=Zm8 (reg (all1 ^^^ s) l) (Zn3 hr0 l);clear hrl;go_wp2;go_ret;exact⟨rfl,Ybm _ _⟩
theorem Zl6 (w:World) (A:Option Addr) (n c:Nat) (l:Nm) (hl:BytesIn w A n l):
  Calls Tryz.prog 95 #[.slice A n c] w λe w'=>e=.returned (.int .u32 (sumN l))/\Below w.heap.size w w':=by
 have HL:=Zh hl;clear hl;go_enter Tryz.func95,Tryz.ntmps95;go_wp2_with fail;refine(Zrn w 0 (by decide) A n c l HL.out).mono ?_;rintro e w' ⟨rfl,hb⟩;have HB:=Zh hb;clear hb;go_wp2;go_ret;exact⟨rfl,HB.out⟩
def Zk0 (L:List Nm) (k:Nat):Nat:=(L.take k).flatten.length
theorem Qac (L:List Nm) (k:Nat):Zk0 L k<=L.flatten.length:=by
 unfold Zk0;conv=>rhs;rw[<- Yau k L,List.flatten_append,Yaq]
 omega
theorem Zpe {L:List Nm} {k:Nat} {x:Nm} (h:L[k]?=some x):(L.take (k+1)).flatten=(L.take k).flatten++x:=by
 rw[Ya5,h,Option.toList_some,List.flatten_append];simp
theorem Zvz {L:List Nm} {k:Nat} {x:Nm} (h:L[k]?=some x):Zk0 L (k+1)=Zk0 L k+x.length:=by
 unfold Zk0;rw[Zpe h,Yaq]
theorem Zwl (w:World) (n:Nat) (h0:0<n) (hn:n<=1099511627776):
  Calls Tryz.prog 79 #[.slice none 0 0,.int .i64 n] w λe w'=>∃ c,e=.returned (.slice (some ⟨w.heap.size,0,none⟩) 0 c)/\w'.ownsRow w.heap.size 5 1 (.slice (some ⟨w.heap.size,0,none⟩) 0 c) 0 []/\Below w.heap.size w w':=by
 obtain⟨i0,hi,hz0,hz1,hz2⟩:=info_parts Za9;have hG:=grownCap_le_maxLen w n 0 5 (by unfold maxLen;omega);have hGn:n<=grownCap w n 0 5:=grownCap_ge w _ _ _;have hfit:Builtin.nextslicecap n 0*i0.bytes<=281474976710656:=growslice_fits (by omega) (by rw[hz2];omega);have hrz:∀ ty,(Builtin.append_ #[24,3] ty #[.slice none 0 0,.int .i64 (n:Int)]).run Tryz.prog w=
   .ok (.slice (some ⟨w.heap.size,0,none⟩) n (grownCap w n 0 5)) (w.drew.alloc (.cells (#[]++Builtin.zeroCells (Value.int .u8 0).cells n++Builtin.zeroCells (Value.int .u8 0).cells (grownCap w n 0 5-n)) 5)):=λty=>by
  have h:=Lib.run_append_grow_zeros w 24 3 ty 5 i0 (.int .u8 0) .i64 .i64 Tryz.underlying24 Tryz.underlying3 hi hz0 none 0 0 [] (run_firstCells_none w.drew i0.size 0 0 0) n h0 (by rw[hz1];omega) (by omega) (by omega) (by rw[hz2];omega) (by simpa using hfit);simpa using h
 obtain⟨G,hGe⟩:=Ze (grownCap w n 0 5);rw[<- hGe]at hG hGn hrz;have hown:=Ybx (base:=w.heap.size) (e:=5) (size:=1) w.drew (#[]++Builtin.zeroCells (Value.int .u8 0).cells n++Builtin.zeroCells (Value.int .u8 0).cells (G-n)) G (Yar _) hG (by
  simp only[Array.size_append,size_zeroCells];have:(Value.int .u8 0).cells.size=1:=rfl;rw[this];simp;omega)
 have hbel:Below w.heap.size w (w.drew.alloc (.cells (#[]++Builtin.zeroCells (Value.int .u8 0).cells n++Builtin.zeroCells (Value.int .u8 0).cells (G-n)) 5)):=(Ybm _ w).drew.alloc (Yar _) _;obtain⟨W2,hW2⟩:=Ze (w.drew.alloc (.cells (#[]++Builtin.zeroCells (Value.int .u8 0).cells n++Builtin.zeroCells (Value.int .u8 0).cells (G-n)) 5));rw[<- hW2]at hrz hown hbel;have HO:=Zh hown;have HB:=Zh hbel;have hs0:∀ w:World,(Instr.slice 24 (.slice none 0 0) none (some (.int .i64 0)) none).run Tryz.prog w=.ok (.slice none 0 0) w:=λw=>by
  have:=Zgr w none 0 0 0 (Yar _)
  simpa using this
 have hs1:∀ w1:World,(Instr.slice 24 (.slice (some ⟨w.heap.size,0,none⟩) n G) none (some (.int .i64 0)) none).run Tryz.prog w1=.ok (.slice (some ⟨w.heap.size,0,none⟩) 0 G) w1:=λw1=>by
  have:=Zgr w1 (some ⟨w.heap.size,0,none⟩) n G 0 (Ybd _)
  simpa using this
 have p1:(0:Int)<(n:Int):=by omega
 have p2:¬ (n:Int)<0:=by omega
 have p3:(n:Int)<=1099511627776:=by omega
 clear hG hGn hfit hGe hown hbel hW2 hi hz0 hz1 hz2;go_enter Tryz.func79,Tryz.ntmps79;go_wp2_with (at_builtin;refine Lib.wpList_append_run _ rfl _ _ _ _ rfl _ _ rfl rfl _ _ (hrz _) ?_);go_ret;exact⟨G,rfl,HO.out,HB.out⟩
theorem Zdp (w:World) (A:Option Addr) (k c:Nat) (L:List Nm) (h:RowsSee w A k L) (h0:0<L.flatten.length) (hn:L.flatten.length<=1099511627776) (hk:k<=1099511627776):
  Calls Tryz.prog 34 #[.slice A k c] w λe w'=>∃ v,e=.returned v/\w'.ownsRow w.heap.size 5 1 v L.flatten.length (L.flatten.map byteV)/\Below w.heap.size w w':=by
 obtain⟨i0,hi,hz0,hz1,hz2⟩:=info_parts Za9;have HL:=Zh h;have HLEN:=Zh h.len;obtain⟨Z,hZ⟩:=Ze L.flatten;rw[<- hZ]at h0 hn ⊢;obtain⟨N,hN⟩:=Ze Z.length;rw[<- hN]at h0 hn ⊢;have HZ:=Zh hZ;have HN:=Zh hN;have HUP:Hid (∀ i,Zk0 L i<=N):=Zh λi=>by rw[hN,hZ];exact Qac L i
 clear h hZ hN;go_enter Tryz.func34,Tryz.ntmps34;go_wp2;go_loopw [3,11] (λs i wr=>∃ j u:Nat,j<=k/\i=.int .i64 j/\s=.int .i64 u/\u<=N/\u=Zk0 L j/\wr=w) (λ_ i _=>k-(intOf i).toNat);case atStart=>exact⟨0,0,by omega,rfl,rfl,by omega,by simp[Zk0],rfl⟩
 case round=>
  obtain⟨j,u,hj,rfl,rfl,hun,hu,hwr⟩:=hrel;obtain rfl:=hwr.symm;have HU:=Zh hu;clear hu;rcases Yab j k with hlt|hge
  ·have hlt':(j:Int)<(k:Int):=by omega
   have hx:L[j]?=some (L[j]'(by rw[HLEN.out];exact hlt)):=Yax _;obtain⟨ad,B,cb,rfl,g1,g2,g3⟩:=HL.out.at_ j _ hx;obtain⟨x,hxe⟩:=Ze (L[j]'(by rw[HLEN.out];exact hlt));rw[<- hxe]at hx g1 g2 g3;have hsn:=Zvz hx;have hle:=HUP.out (j+1);rw[hsn,<- HU.out]at hle;have hw1:IntKind.i64.wrap ((u:Int)+(x.length:Int))=((u+x.length:Nat):Int):=by rw[Ybo _ (by omega)];push_cast;rfl
   have hp2:¬ (((u+x.length:Nat):Int)<0):=by omega
   obtain⟨t,ht⟩:=Ze (u+x.length);have HT:Hid (t=Zk0 L (j+1)):=Zh (by rw[hsn,<- HU.out];exact ht);rw[<- ht]at hw1 hp2 hle;clear ht hsn g3 hxe hx;go_wp2;go_roundw;case rel=>exact⟨j+1,t,by omega,by go_num,by first|rfl|trivial,hle,HT.out,by first|rfl|trivial⟩
   case measure=>simp[intOf];omega
  ·obtain rfl:j=k:=by omega
   have hz:¬ ((j:Int)<(j:Int)):=by omega
   have huN:u=N:=by
    rw[HU.out];unfold Zk0;rw[Yav (by rw[HLEN.out];exact Yar _),<- HZ.out,<- HN.out]
   subst huN;go_wp2_with fail;refine(Zwl w u h0 hn).mono ?_;rintro e w1 ⟨c1,rfl,hown,hb⟩;have HB1:=Zh hb;have HO1:=Zh hown;clear hown hb;go_wp2;go_loopw [6,27] (λv i wi=>∃ (q:Nat) (y:Nm),q<=j/\i=.int .i64 q/\y=(L.take q).flatten/\wi.ownsRow w.heap.size 5 1 v y.length (y.map byteV)/\Below w.heap.size w wi) (λ_ i _=>j-(intOf i).toNat);case atStart=>exact⟨0,[],by omega,rfl,rfl,by simpa using HO1.out,HB1.out⟩
   case round=>
    clear HO1 HB1;obtain⟨q,y,hq,rfl,hy,hO,hB⟩:=hrel;have HY:=Zh hy;clear hy;have HO:=Zh hO;have HB:=Zh hB;clear hO hB;obtain⟨Av,cv,hv⟩:=Zac HO.out;subst hv;rcases Yab q j with hlt|hge2
    ·have hlt':(q:Int)<(j:Int):=by omega
     have hx:L[q]?=some (L[q]'(by rw[HLEN.out];exact hlt)):=Yax _;obtain⟨ad,B,cb,rfl,g1,g2,g3⟩:=(HL.out.below HB.out).at_ q _ hx;obtain⟨x,hxe⟩:=Ze (L[q]'(by rw[HLEN.out];exact hlt));rw[<- hxe]at hx g1 g2 g3;have hsn:=Zpe hx;have hle:=HUP.out (q+1);unfold Zk0 at hle;rw[hsn,Yaq,<- HY.out]at hle;rw[<- HY.out]at hsn;have HG3:=Zh g3;have HSN:=Zh hsn;have hsz:=HB.out.size;clear hsn hxe hx g3;go_wp2_with (at_builtin;refine Zae _ rfl _ _ 24 rfl w.heap.size 5 i0 (.int .u8 0) 1 Tryz.underlying24 hi hz0 hz1 hz2 rfl _ y.length (y.map byteV) rfl HO.out B x.length cb (x.map byteV) rfl HG3.out.2.1 (Zbm x) (by unfold maxLen;omega) (by omega) hsz ?_;intro v2 w2 hown2 hgrow2 hloc2;have HO2:=Zh hown2;have HB2:=Zh (HB.out.grown hgrow2 hsz (λk e=>(HO.out.lt k e).1));clear hown2 hgrow2 hloc2);go_roundw;case rel=>exact⟨q+1,y++x,by omega,by go_num,HSN.out.symm,by rw[Yaq,Ybe];exact HO2.out,HB2.out⟩
     case measure=>simp[intOf];omega
    ·obtain rfl:q=j:=by omega
     have hz:¬ ((q:Int)<(q:Int)):=by omega
     have hfin:y=Z:=by rw[HY.out,Yav (by rw[HLEN.out];exact Yar _),HZ.out]
     subst hfin;go_wp2;go_ret;exact⟨_,rfl,by rw[HN.out];exact HO.out,HB.out⟩
theorem Zzh (w:World) (A B:Option Addr) (c d:Nat) (x y:Nm) (hx:BytesIn w A x.length x) (hy:BytesIn w B y.length y) (hc:x.length<=c) (hd:y.length<=d):
  RowsSee (w.alloc (.cells #[.slice A x.length c,.slice B y.length d] 24)) (some ⟨w.heap.size,0,none⟩) 2 [x,y]:=by
 have hb:Below w.heap.size w (w.alloc (.cells #[.slice A x.length c,.slice B y.length d] 24)):=(Ybm _ w).alloc (Yar _) _;have hB:=Blk.new w 24 #[.slice A x.length c,.slice B y.length d];refine⟨rfl,by unfold maxLen;omega,λi z hz=>?_⟩
 match i with
 | 0=>simp at hz;subst hz;exact⟨_,A,c,rfl,hB.cell 0,hc,hx.below hb⟩
 | 1=>simp at hz;subst hz;exact⟨_,B,d,rfl,hB.cell 1,hd,hy.below hb⟩
 | i+2=>simp at hz
theorem Zrw (w:World) (A B D:Option Addr) (c d f:Nat) (x y z:Nm) (hx:BytesIn w A x.length x) (hy:BytesIn w B y.length y) (hz:BytesIn w D z.length z) (hc:x.length<=c) (hd:y.length<=d) (hf:z.length<=f):
  RowsSee (w.alloc (.cells #[.slice A x.length c,.slice B y.length d,.slice D z.length f] 24)) (some ⟨w.heap.size,0,none⟩) 3 [x,y,z]:=by
 have hb:Below w.heap.size w (w.alloc (.cells #[.slice A x.length c,.slice B y.length d,.slice D z.length f] 24)):=(Ybm _ w).alloc (Yar _) _;have hB:=Blk.new w 24 #[.slice A x.length c,.slice B y.length d,.slice D z.length f];refine⟨rfl,by unfold maxLen;omega,λi u hu=>?_⟩
 match i with
 | 0=>simp at hu;subst hu;exact⟨_,A,c,rfl,hB.cell 0,hc,hx.below hb⟩
 | 1=>simp at hu;subst hu;exact⟨_,B,d,rfl,hB.cell 1,hd,hy.below hb⟩
 | 2=>simp at hu;subst hu;exact⟨_,D,f,rfl,hB.cell 2,hf,hz.below hb⟩
 | i+3=>simp at hu
theorem Qdg (m:Nat) (h:m<256):bits .or .u8 (m:Int) 128=((m % 128+128:Nat):Int):=by
 have h1:=u8_or_nat m 128 h (by decide);have h2:∀ m:Fin 256,m.val ||| 128=m.val % 128+128:=by decide +kernel
 rw[h2 ⟨m,h⟩]at h1;exact h1
theorem Ztn (w:World) (base:Nat) (hbase:base<=w.heap.size) (v0:Value) (ys:Nm) (hy:ys.length<=70368744177664) (h0:w.ownsRow base 5 1 v0 ys.length (ys.map byteV)) (n:Nat) (hn:n<18446744073709551616):
  Calls Tryz.prog 128 #[v0,.int .u64 n] w λe w'=>∃ v,e=.returned v/\w'.ownsRow base 5 1 v (ys++putL n).length ((ys++putL n).map byteV)/\Below base w w':=by
 obtain⟨i0,hi,hz0,hz1,hz2⟩:=info_parts Za9;have H0:=Zh h0;obtain⟨Z,hZ⟩:=Ze (ys++putL n);rw[<- hZ];have HZ:=Zh hZ;clear h0 hZ;go_enter Tryz.func128,Tryz.ntmps128;go_wp2;go_loopw [0,1] (λv s wr=>∃ (m:Nat) (xs:Nm),s=.int .u64 m/\m<=n/\xs++putL m=Z/\Below base w wr/\wr.ownsRow base 5 1 v xs.length (xs.map byteV)) (λ_ s _=>(intOf s).toNat);case atStart=>exact⟨n,ys,rfl,Yar _,HZ.out.symm,Ybm _ _,H0.out⟩
 case round=>
  obtain⟨m,xs,rfl,hm,hx,hB,hO⟩:=hrel;have HX:=Zh hx;have HB:=Zh hB;have HO:=Zh hO;have hsb:base<=wr.heap.size:=Ybu hbase hB.size;clear hx hB hO;have hlen:xs.length<=ys.length+10:=by
   have h1:=Zao n (by omega);have h2:=congrArg List.length (HX.out.trans HZ.out);simp only[Yaq]at h2;omega
  obtain⟨Av,cv,hv⟩:=Zac HO.out;subst hv;rcases Yab m 128 with hs|hb
  ·have hsz:¬ (m:Int) ≥ 128:=by omega
   obtain⟨x,rfl⟩:∃ x:UInt8,m=x.toNat:=⟨UInt8.ofNat m,(Zau (by omega)).symm⟩
   have hmz:(x.toNat:Int) % 256=(x.toNat:Int):=by omega
   have hfin:Z=xs++[x]:=by rw[<- HX.out,Zez hs];simp
   have HF:=Zh hfin;clear hfin;go_wp2_with (at_builtin;refine Zae _ rfl (.tmp 15) (.tmp 18) 24 rfl base 5 i0 (.int .u8 0) 1 Tryz.underlying24 hi hz0 hz1 hz2 rfl _ xs.length _ rfl (Ze4 HO.out _) _ 1 1 _ rfl (Zm4 wr x) (Zbm [x]) (by unfold maxLen;omega) (by omega) (by simp;omega) ?_;intro v w2 hown hgrow _;have HO2:=Zh hown;have HB2:=Zh ((HB.out.alloc hsb _).grown hgrow (by simp;omega) (λg hg=>(HO.out.lt g hg).1));clear hown hgrow);go_ret;refine⟨_,rfl,?_,HB2.out⟩;rw[HF.out,Yaq,Ybe];exact HO2.out
  ·have hbz:(m:Int) ≥ 128:=by omega
   obtain⟨q,hq⟩:=Ze (m % 256);have h1:(m:Int) % 256=(q:Int):=by omega
   obtain⟨x,hxq⟩:=Ze (UInt8.ofNat (q % 128+128));have h2:bits .or .u8 (q:Int) 128=(x.toNat:Int):=by
    rw[Qdg q (by omega),hxq,Zau (by omega)]
   have hnx:(xs++[x])++putL (m/128)=Z:=by
    rw[<- HX.out,Zii (n:=m) (by omega),hxq,hq,Yao,show m % 256 % 128=m % 128 by omega];rfl
   have HN:=Zh hnx;clear hnx hxq hq;go_wp2_with (at_builtin;refine Zae _ rfl (.tmp 9) (.tmp 13) 24 rfl base 5 i0 (.int .u8 0) 1 Tryz.underlying24 hi hz0 hz1 hz2 rfl _ xs.length _ rfl (Ze4 HO.out _) _ 1 1 _ rfl (Zm4 wr x) (Zbm [x]) (by unfold maxLen;omega) (by omega) (by simp;omega) ?_;intro v w2 hown hgrow _);have HO2:=Zh hown;have HB2:=Zh ((HB.out.alloc hsb _).grown hgrow (by simp;omega) (λg hg=>(HO.out.lt g hg).1));clear hown hgrow;refine⟨⟨m/128,xs++[x],by go_num,by omega,HN.out,HB2.out,?_⟩,?_⟩
   ·rw[Yaq,Ybe]
    exact HO2.out
   ·simp[intOf]
    omega
theorem Zff (w:World) (n:Nat) (hn:n<18446744073709551616):
  Calls Tryz.prog 77 #[.int .u64 n] w λe w'=>∃ v,e=.returned v/\w'.ownsRow w.heap.size 5 1 v (putL n).length ((putL n).map byteV)/\Below w.heap.size w w':=by
 go_enter Tryz.func77,Tryz.ntmps77;go_wp2_with fail;refine(Ztn w w.heap.size (Yar _) (.slice none 0 0) [] (by simp) ⟨rfl,.inl ⟨rfl,rfl⟩⟩ n hn).mono ?_;rintro e w1 ⟨v,rfl,hO,hB⟩;have HO:=Zh hO;have HB:=Zh hB;clear hO hB;go_wp2;go_ret;exact⟨v,rfl,by simpa using HO.out,HB.out⟩
theorem Zgy (w:World) (A:Option Addr) (n c:Nat) (l:Nm) (hl:BytesIn w A n l):
  Calls Tryz.prog 148 #[.slice A n c] w λe w'=>e=.returned (gotV (getL l))/\w'=w:=by
 have HL:=Zh hl;have hln:l.length=n:=by have:=hl.2.1.len;simpa using this
 have HLN:=Zh hln;clear hl hln;have hn63:n<=9223372036854775807:=HL.out.1;go_enter Tryz.func148,Tryz.ntmps148;go_wp2;go_loop [5,10] (λa i=>∃ acc k:Nat,k<=9/\a=.int .u64 acc/\i=.int .i64 k/\acc<2 ^ (7*k)/\k<=n/\Zdg k acc (l.drop k)=getL l) (λ_ i=>10-(intOf i).toNat);case atStart=>exact⟨0,0,by omega,rfl,rfl,by omega,by omega,rfl⟩
 case round=>
  obtain⟨acc,k,hk,rfl,rfl,hacc,hkn,hg⟩:=hrel;have HG:=Zh hg;have HACC:=Zh hacc;clear hg hacc;rcases Yab k n with hlt|hge
  ·have hlt':(k:Int)<(n:Int):=by omega
   obtain⟨ad,x,rfl,hx,hcx⟩:=HL.out.at k hlt;have hx8:=x.toNat_lt;have HX:=Zh hx;clear hx;have a1:=Zsp x.toNat (by omega);have hdrop:l.drop k=x :: l.drop (k+1):=by
    obtain⟨h1,h2⟩:=Ybb.1 HX.out;rw[<- h2,List.getElem_cons_drop]
   have HD:=Zh hdrop;clear hdrop;by_cases hbad:(k=9/\1<x.toNat)\/(x.toNat=0/\0<k)
   ·have hend:getL l=(0,0,32):=by
     rw[<- HG.out,HD.out];simp only[Zdg];rw[Yag hbad]
    rw[hend];rcases hbad with⟨h9,h1⟩|⟨h1,h2⟩
    ·have h9b:((k:Int)==9)=true:=by rw[h9];rfl
     have h1z:(1:Int)<(x.toNat:Int):=by omega
     clear h9;go_wp2;go_ret3;exact⟨rfl,rfl⟩
    ·have h1b:((x.toNat:Int)==0)=true:=by rw[h1];rfl
     have h1z:¬ (1:Int)<(x.toNat:Int):=by omega
     have h2z:(0:Int)<(k:Int):=by omega
     clear h1;by_cases h9:k=9
     ·have h9b:((k:Int)==9)=true:=by rw[h9];rfl
      clear h9;go_wp2;go_ret3;exact⟨rfl,rfl⟩
     ·have h9b:((k:Int)==9)=false:=by simp;omega
      go_wp2;go_ret3;exact⟨rfl,rfl⟩
   ·have h91:k=9->x.toNat<=1:=λe=>by
     rcases Yab 1 x.toNat with h|h
     ·exact absurd (Or.inl ⟨e,h⟩) hbad
     ·exact h
    have h0k:0<k->0<x.toNat:=λe=>by
     rcases Yai x.toNat with h|h
     ·exact absurd (Or.inr ⟨h,e⟩) hbad
     ·exact h
    have hsh:=Qcu acc k x.toNat HACC.out hk (λe=>by have:=h91 e;omega);obtain⟨acc',hacc'⟩:=Ze (acc+x.toNat % 128*2 ^ (7*k));rw[<- hacc']at hsh;have HA:=Zh hacc';have HBAD:=Zh hbad;have H91:=Zh h91;have H0K:=Zh h0k;clear hacc' hbad h91 h0k;have hres:x.toNat<128->getL l=(acc',k+1,0):=λhs=>by
     rw[<- HG.out,HD.out];simp only[Zdg];rw[Yaf HBAD.out,Yag hs,HA.out]
    have hnext:128<=x.toNat->acc'<2 ^ (7*(k+1))/\Zdg (k+1) acc' (l.drop (k+1))=getL l/\k+1<=9:=λhs=>by
     refine⟨?_,?_,?_⟩
     ·rw[HA.out,pow7]
      have h1:=HACC.out;have h2:x.toNat % 128+1<=128:=by omega
      have h3:=Yak (2 ^ (7*k)) h2;rw[Nat.add_mul]at h3;omega
     ·rw[<- HG.out,HD.out]
      simp only[Zdg];rw[Yaf HBAD.out,Yaf (by omega),HA.out]
     ·rcases Yab k 9 with h|h
      ·exact h
      ·have:=H91.out (by omega)
       omega
    have HRES:=Zh hres;have HNX:=Zh hnext;clear hres hnext;have fin1:∀ hs:x.toNat<128,Ending.returned (.tuple #[.int .u64 acc',.int .i64 ((k:Int)+1),.int .i64 0])=.returned (gotV (getL l)):=λhs=>by
     rw[HRES.out hs];rfl
    have HF:=Zh fin1;clear fin1;by_cases h9:k=9
    ·have h9b:((k:Int)==9)=true:=by rw[h9];rfl
     have h1z:¬ (1:Int)<(x.toNat:Int):=by have:=H91.out h9;omega
     have hk0z:(0:Int)<(k:Int):=by omega
     have hc0:((x.toNat:Int)==0)=false:=by have:=H0K.out (by omega);simp;omega
     have hs:x.toNat<128:=by have:=H91.out h9;omega
     have hsz:(x.toNat:Int)<128:=by omega
     clear h9;go_wp2;go_ret3;exact⟨HF.out hs,rfl⟩
    ·have h9b:((k:Int)==9)=false:=by simp;omega
     by_cases hk0:k=0
     ·have hk0z:¬ (0:Int)<(k:Int):=by omega
      clear hk0;rcases Yab x.toNat 128 with hs|hs
      ·have hsz:(x.toNat:Int)<128:=by omega
       go_wp2;go_ret3;exact⟨HF.out hs,rfl⟩
      ·have hsz:¬ (x.toNat:Int)<128:=by omega
       obtain⟨n1,n2,n3⟩:=HNX.out hs;have N1:=Zh n1;have N2:=Zh n2;clear n1 n2;go_wp2;exact⟨⟨acc',k+1,n3,rfl,by go_num,N1.out,by omega,N2.out⟩,by simp[intOf];omega⟩
     ·have hk0z:(0:Int)<(k:Int):=by omega
      have hc0:((x.toNat:Int)==0)=false:=by have:=H0K.out (by omega);simp;omega
      rcases Yab x.toNat 128 with hs|hs
      ·have hsz:(x.toNat:Int)<128:=by omega
       go_wp2;go_ret3;exact⟨HF.out hs,rfl⟩
      ·have hsz:¬ (x.toNat:Int)<128:=by omega
       obtain⟨n1,n2,n3⟩:=HNX.out hs;have N1:=Zh n1;have N2:=Zh n2;clear n1 n2;go_wp2;exact⟨⟨acc',k+1,n3,rfl,by go_num,N1.out,by omega,N2.out⟩,by simp[intOf];omega⟩
  ·have hlt':¬ (k:Int)<(n:Int):=by omega
   have hend:getL l=(0,0,31):=by rw[<- HG.out,List.drop_of_length_le (by rw[HLN.out];exact hge)];rfl
   rw[hend];go_wp2;go_ret3;exact⟨rfl,rfl⟩
theorem Zkt (w:World) (A:Option Addr) (n c:Nat) (l:Nm) (hl:BytesIn w A n l) {v j:Nat} {e:Int} (hg:getL l=(v,j,e)):
  Calls Tryz.prog 148 #[.slice A n c] w λe2 w'=>e2=.returned (.tuple #[.int .u64 v,.int .i64 j,.int .i64 e])/\w'=w:=by
 have h:=Zgy w A n c l hl;rw[hg]at h;exact h
def u32v (n:Nat):Value:=.int .u32 n
def zeros:Array Value:=Array.replicate 256 (.int .u32 0)
def bitsA:Array Nat:=#[1996959894,3993919788,124634137,249268274,498536548,997073096,1994146192,3988292384]
def bits8:Array Value:=#[.int .u32 1996959894,.int .u32 3993919788,.int .u32 124634137,.int .u32 249268274,.int .u32 498536548,.int .u32 997073096,.int .u32 1994146192,.int .u32 3988292384]
def tabCells:Array Value:=(Array.range 256).map λi=>u32v (s8 i)
theorem Zxq:(Tryz.prog.info? 281).map (λi=>(i.zero,i.size))=some (some (.agg zeros),256):=by kernel_rfl
structure TabAt (w wx:World) (m:Nat):Prop where
 below:Below w.heap.size w wx
 out:Blk wx w.heap.size 281 zeros
 eight:Blk wx (w.heap.size+1) 292 bits8
 tab:∃ C:Array Value,C.size=256/\Blk wx (w.heap.size+2) 281 C/\(∀ j,j<m->C[j]?=some (u32v (s8 j)))/\∀ j,j<256->∃ n:Int,C[j]?=some (.int .u32 n)
theorem Zv6:∀ (i:Fin 8) (j:Fin 128),j.val<2 ^ i.val->bits .or .i64 ((2 ^ i.val:Nat):Int) (j.val:Int)=((2 ^ i.val+j.val:Nat):Int)/\2 ^ i.val ||| j.val=2 ^ i.val+j.val:=by decide +kernel
theorem Qaz:∀ i:Fin 8,bits8[i.val]?=some (u32v (bitsA.getD i.val 0))/\bitsA.getD i.val 0<4294967296:=by
 intro i
 match i with
 | 0|1|2|3|4|5|6|7=>exact⟨rfl,by decide⟩
theorem TabAt.drew {w wx:World} {m:Nat} (h:TabAt w wx m):TabAt w wx.drew m:=⟨h.below.drew,h.out,h.eight,h.tab⟩
theorem TabAt.put {w wx:World} {m:Nat} (h:TabAt w wx m) (hm:m<256):TabAt w (wx.setCell ⟨w.heap.size+1+1,m,none⟩ (.int .u32 (s8 m))) (m+1):=by
 obtain⟨C,h1,h2,h3,h4⟩:=h.tab;refine⟨h.below.setCell (by simp;omega) _,h.out.far (by simp;omega) _,h.eight.far (by simp) _,C.setIfInBounds m (u32v (s8 m)),by simp[h1],h2.set_ m (u32v (s8 m)),λj hj=>?_,λj hj=>?_⟩
 ·rw[Ycp]
  by_cases e:m=j
  ·subst e
   rw[Yag rfl,Yag (by omega)]
  ·rw[Yaf e]
   exact h3 j (by omega)
 ·rw[Ycp]
  by_cases e:m=j
  ·subst e
   rw[Yag rfl,Yag (by omega)];exact⟨_,rfl⟩
  ·rw[Yaf e]
   exact h4 j hj
theorem TabAt.start (w:World):TabAt w (((w.alloc (.cells zeros 281)).alloc (.cells bits8 292)).alloc (.cells zeros 281)) 1:=by
 have h0:Blk (w.alloc (.cells zeros 281)) w.heap.size 281 zeros:=Blk.new w _ _;have h1:Blk ((w.alloc (.cells zeros 281)).alloc (.cells bits8 292)) (w.heap.size+1) 292 bits8:=by
  have:=Blk.new (w.alloc (.cells zeros 281)) 292 bits8
  simpa using this
 have h2:Blk (((w.alloc (.cells zeros 281)).alloc (.cells bits8 292)).alloc (.cells zeros 281)) (w.heap.size+2) 281 zeros:=by
  have:=Blk.new ((w.alloc (.cells zeros 281)).alloc (.cells bits8 292)) 281 zeros
  simpa using this
 refine⟨(((Ybm _ w).alloc (Yar _) _).alloc (by simp) _).alloc (by simp;omega) _,(h0.alloc _).alloc _,h1.alloc _,zeros,by simp[zeros],h2,λj hj=>?_,λj hj=>⟨0,?_⟩⟩
 ·obtain rfl:j=0:=by omega
  have:s8 0=0:=by decide
  simp[zeros,u32v,this]
 ·simp[zeros,hj]
theorem Zyt (w:World):Calls Tryz.prog 209 #[] w λe w'=>e=.returned (.agg tabCells)/\Below w.heap.size w w':=by
 obtain⟨hz,hi⟩:=zero_of_info Zxq;have HST:=Zh (TabAt.start w);go_enter Tryz.func209,Tryz.ntmps209;go_wp2;have hz2:s8 0=0:=by decide
 go_loopw [7] (λs wr=>∃ i:Nat,i<=8/\s=.int .i64 i/\TabAt w wr (2 ^ i)) (λs _=>8-(intOf s).toNat);case atStart=>exact⟨0,by omega,rfl,HST.out⟩
 case round=>
  obtain⟨i,hi8,rfl,hT⟩:=hrel;clear HST;have HT:=Zh hT;clear hT;rcases Yab i 8 with hlt|hge
  ·have hlt':(i:Int)<8:=by omega
   obtain⟨M,hM⟩:∃ M:Nat,M=2 ^ i:=⟨_,rfl⟩
   have hMl:M<=128:=by
    have:=Nat.pow_le_pow_right (n:=2) (by omega) (show i<=7 by omega)
    omega
   have hshl:wrap64 (2 ^ i)=(M:Int):=by
    have e:(2:Int) ^ i=((2 ^ i:Nat):Int):=by simp
    rw[e,<- hM];unfold wrap64;omega
   rw[<- hM]at HT;obtain⟨B,hB⟩:∃ B:Nat,B=bitsA.getD i 0:=⟨_,rfl⟩
   have he8:=Qaz ⟨i,hlt⟩;simp only at he8;rw[<- hB]at he8;obtain⟨he8,hB32⟩:=he8;have HE:=Zh he8;have HM:=Zh hM;have HB:=Zh hB;clear he8 hM hB;go_wp2;rw[hshl];clear hshl;go_loopw [13] (λs wr=>∃ l:Nat,l<=M/\s=.int .i64 l/\TabAt w wr (M+l)) (λs _=>M-(intOf s).toNat);case atStart=>exact⟨0,by omega,rfl,HT.out⟩
   case round=>
    clear HT;obtain⟨l,hlM,rfl,hT⟩:=hrel;have HT:=Zh hT;clear hT;rcases Yab l M with hl|hl
    ·have hl1:(l:Int)<(M:Int):=by omega
     have hl2:(l:Int)<256:=by omega
     have hl3:((M+l:Nat):Int)<256:=by omega
     have hor:bits .or .i64 (M:Int) (l:Int)=((M+l:Nat):Int):=by
      have:=(Zv6 ⟨i,hlt⟩ ⟨l,by omega⟩ (by rw[HM.out]at hl;exact hl)).1
      rw[HM.out];exact this
     obtain⟨C,hC1,hC2,hC3,hC4⟩:=HT.out.tab;have c1:wr.cell? ⟨w.heap.size+1+1,l,none⟩=some (.int .u32 (s8 l)):=(hC2.cell l).trans (hC3 l (by omega));have c2:wr.cell? ⟨w.heap.size+1,i,none⟩=some (.int .u32 B):=(HT.out.eight.cell i).trans HE.out;have c3:∃ n:Int,wr.cell? ⟨w.heap.size+1+1,M+l,none⟩=some (.int .u32 n):=(hC4 (M+l) (by omega)).imp λn h=>(hC2.cell (M+l)).trans h;obtain⟨n0,c3⟩:=c3;have z3:wr.frozen? ⟨w.heap.size+1+1,M+l,none⟩=false:=hC2.frozen _;have hx:bits .xor .u32 ((s8 l:Nat):Int) (B:Int)=((s8 (M+l):Nat):Int):=by
      rw[u32_xor_nat _ _ (Qda (by omega)) hB32];have h1:=Qae ⟨i,hlt⟩ ⟨l,by omega⟩ (by rw[HM.out]at hl;exact hl);have h2:=(Zv6 ⟨i,hlt⟩ ⟨l,by omega⟩ (by rw[HM.out]at hl;exact hl)).2;simp only at h1 h2;rw[h2,<- HM.out]at h1;rw[h1,HB.out];congr 2
      match i,hlt with
      | 0,_|1,_|2,_|3,_|4,_|5,_|6,_|7,_=>rfl
     go_wp2;go_region;go_wp2;go_roundw;case rel=>exact⟨l+1,by omega,by go_num,HT.out.drew.put (by omega)⟩
     case measure=>simp[intOf];omega
    ·obtain rfl:l=M:=by omega
     have hlz:¬ ((l:Int)<(l:Int)):=by omega
     go_wp2;go_roundw;case rel=>exact⟨i+1,by omega,by go_num,by have:=HT.out;rw[HM.out]at this;rw[Nat.pow_succ,Nat.mul_two];exact this⟩
     case measure=>simp[intOf];omega
  ·obtain rfl:i=8:=by omega
   have hlt':¬ (((8:Nat):Int)<8):=by omega
   obtain⟨C,hC1,hC2,hC3,-⟩:=HT.out.tab;have hC:C=tabCells:=by
    apply Array.ext_getElem?;intro j;rcases Yab j 256 with hj|hj
    ·rw[hC3 j (by simpa using hj)]
     simp[tabCells,hj]
    ·rw[Array.getElem?_eq_none (by omega),Array.getElem?_eq_none (by simp[tabCells];omega)]
   subst hC;have hone:tabCells.all (·.oneCell')=true:=by
    rw[Array.all_eq_true_iff_forall_mem];intro v hv;simp only[tabCells,Array.mem_map]at hv;obtain⟨j,_,rfl⟩:=hv;rfl
   have HONE:=Zh hone;clear hone;have hC2':wr.heap[w.heap.size+1+1]?=some (.cells tabCells 281 (0,0)):=hC2;have hO:wr.heap[w.heap.size]?=some (.cells zeros 281 (0,0)):=HT.out.out;have hi':(Tryz.prog.info? 281).map (·.size)=some tabCells.size:=by rw[hC1];exact hi
   clear hi hz;have HC2:=Zh hC2';have HO:=Zh hO;have HI:=Zh hi';clear hC2' hO hC2 hC1 hC3 hi';go_wp2;refine wp_load_row 281 (.tmp 2) rfl (w.heap.size+1+1) rfl 281 tabCells (0,0) _ HC2.out Tryz.underlying281 rfl HI.out ?_;rename_i hK;apply hK;refine wpList_store_row rfl 281 (.tmp 0) (.tmp 29) rfl w.heap.size tabCells rfl rfl 281 zeros HO.out HI.out (by simp[zeros,tabCells]) HONE.out ?_;go_wp2;have hb:=HT.out.below;have hs:=hb.size;refine bodyPost_ret (v:=.agg tabCells) ?_ rfl ⟨rfl,⟨hb.os,hb.tape,hb.output,by simpa using hs,λk hk=>(setRow_other _ _ _ _ (by omega)).trans (hb.block k hk)⟩⟩;exact results_cell_row rfl _ _ w.heap.size 281 tabCells (0,0) _ rfl (setRow_heap _ _ zeros _ _ _ HO.out) Tryz.underlying281 rfl HI.out
theorem Znv:tabCells.size=256:=by simp[tabCells]
theorem Qem:tabCells.all (·.oneCell')=true:=by
 rw[Array.all_eq_true_iff_forall_mem];intro v hv;simp only[tabCells,Array.mem_map]at hv;obtain⟨j,_,rfl⟩:=hv;rfl
theorem Qe8 (j:Nat) (hj:j<256):tabCells[j]?=some (.int .u32 (s8 j)):=by simp[tabCells,hj,u32v]
theorem Qa6 (w:World) (s:Nat) (hs:s<4294967296) (A:Option Addr) (n c:Nat) (l:Nm) (hl:BytesIn w A n l):
  Calls Tryz.prog 171 #[.int .u32 s,.slice A n c] w λe w'=>e=.returned (.int .u32 (Qbt s l))/\Below w.heap.size w w':=by
 obtain⟨hz,hi⟩:=zero_of_info Zxq;have hsc:∀ w:World,(storeCells ⟨w.heap.size,0,none⟩ tabCells.toList 0).run Tryz.prog (w.alloc (.cells zeros 281))=.ok () (w.alloc (.cells tabCells 281)):=λw=>
  run_storeCells_new w 281 zeros tabCells (by rw[Znv];exact hi) (by rw[Znv];simp[zeros]) Qem
 have hsz:=Znv;have hinv:=Zm8 s hs;have hsg:IntKind.u32.signed=false:=rfl;clear hi;have HL:=Zh hl;clear hl;go_enter Tryz.func171,Tryz.ntmps171;go_wp2_with fail;refine(Zyt w).mono ?_;rintro e w1 ⟨rfl,hb⟩;have HB:=Zh hb;clear hb;go_wp2;have HZ:=Zh hz;clear hz hsc hinv;have HT:Hid (∀ j,j<256->(w1.alloc (.cells tabCells 281)).cell? ⟨w1.heap.size,j,none⟩=some (.int .u32 (s8 j))):=Zh λj hj=>((Blk.new w1 281 tabCells).cell j).trans (Qe8 j hj);have HS:Hid (Src (w1.alloc (.cells tabCells 281)) A n (l.map byteV)):=Zh (HL.out.2.1.keep λad e hn=>by
  have h0:=HL.out.2.2 ad e hn;have h1:=HB.out.size;rw[Ybn _ _ _ (by omega)];exact HB.out.block _ h0)
 have hr0:all1 ^^^ s<4294967296:=Ztv hs;have hln:l.length=n:=by have:=HL.out.2.1.len;simpa using this
 have HLN:=Zh hln;clear hln;go_loop [6,14] (λr i=>∃ k:Nat,k<=n/\i=.int .i64 k/\r=.int .u32 (reg (all1 ^^^ s) (l.take k))) (λ_ i=>n-(intOf i).toNat);case atStart=>exact⟨0,by omega,rfl,by simp[reg]⟩
 case round=>
  obtain⟨k,hk,rfl,rfl⟩:=hrel;rcases Yab k n with hlt|hge
  ·have hlt':(k:Int)<(n:Int):=by omega
   have hn63:n<=9223372036854775807:=HL.out.1;obtain⟨ad,hA⟩:∃ ad,A=some ad:=by
    cases hA:A with
    | none=>have:=HS.out.nil hA;omega
    | some ad=>exact⟨ad,rfl⟩
   subst hA;obtain⟨x,hx⟩:∃ x,l[k]?=some x:=⟨l[k]'(by rw[HLN.out];exact hlt),Yax _⟩
   have hcx:=HS.out.cells ad rfl k (byteV x) (by rw[Ych,hx];rfl);unfold byteV at hcx;obtain⟨R,hR⟩:=Ze (reg (all1 ^^^ s) (l.take k));have hR32:R<4294967296:=by rw[hR];exact Zn3 hr0 _
   rw[<- hR];have hx8:=x.toNat_lt;obtain⟨J,hJ⟩:∃ J:Nat,J=(R % 256) ^^^ x.toNat:=⟨_,rfl⟩
   have hj:J<256:=by rw[hJ];exact Qc5 (by omega) (by omega)
   have hjz:(J:Int)<256:=by omega
   have hxi:bits .xor .u8 ((R:Int) % 256) (x.toNat:Int)=(J:Int):=by
    rw[show(R:Int) % 256=((R % 256:Nat):Int) by omega,u8_xor_nat _ _ (by omega) (by omega),<- hJ]
   have ht:=HT.out _ hj;have hxo:bits .xor .u32 ((R:Int)/256) ((s8 J:Nat):Int)=((step R x:Nat):Int):=by
    rw[show(R:Int)/256=((R/256:Nat):Int) by omega,u32_xor_nat _ _ (by omega) (Qda (by omega)),Qal,hJ]
   have HJ:=Zh hJ;clear hJ;have HR:=Zh hR;have HX:=Zh hx;clear hR hx;obtain⟨blk,off,sp⟩:=ad;go_wp2;go_round;case rel=>
    refine⟨k+1,by omega,by go_num,?_⟩;rw[Zsb _ HX.out,<- HR.out]
   case measure=>simp[intOf];omega
  ·obtain rfl:k=n:=by omega
   have hlz:¬ ((k:Int)<(k:Int)):=by omega
   have hrl:l.take k=l:=Yav (by rw[HLN.out];exact Yar _);rw[hrl];have hinv2:=Zm8 (reg (all1 ^^^ s) l) (Zn3 hr0 l);clear hrl;go_wp2;go_ret;exact⟨rfl,HB.out.alloc HB.out.size _⟩
theorem Qc9 (w:World) (A:Option Addr) (n c:Nat) (l:Nm) (hl:BytesIn w A n l):
  Calls Tryz.prog 129 #[.slice A n c] w λe w'=>e=.returned (.int .u32 (sumN l))/\Below w.heap.size w w':=by
 have HL:=Zh hl;clear hl;go_enter Tryz.func129,Tryz.ntmps129;go_wp2_with fail;refine(Qa6 w 0 (by decide) A n c l HL.out).mono ?_;rintro e w' ⟨rfl,hb⟩;have HB:=Zh hb;clear hb;go_wp2;go_ret;exact⟨rfl,HB.out⟩
theorem Zwr (w:World) (A B:Option Addr) (n m ca cb:Nat) (la lb:Nm) (ha:BytesIn w A n la) (hb:BytesIn w B m lb):
  Calls Tryz.prog 174 #[.slice A n ca,.slice B m cb] w λe w'=>e=.returned (.bool (decide (la=lb)))/\w'=w:=by
 have c1:=Zdx ha ca;have c2:=Zdx hb cb;clear ha hb;by_cases h:la=lb
 ·subst h
  rw[Yb0 rfl];go_enter Tryz.func174,Tryz.ntmps174;go_wp2;go_ret;simp
 ·have d1:(la==lb)=false:=by simpa using h
  rw[Ybt h];go_enter Tryz.func174,Tryz.ntmps174;go_wp2;go_ret;simp
end
section
open Go.RowKit Go.Maps Go.WideMaps Go.ChangeShapes Go.WideShapes Go.ChangeAt Go.Deep
section
variable {H:Type} {enc:TypeId×Value->H} {w:World}
theorem Qe6 {cs:List Value} {x:DataW H×List MemPlace} {fuel:Nat} {base:Nat} {spare:Nat->Bool} {held:Bool} (h:DataW.trod enc Tryz.prog w base spare held fuel 49 cs=some x):
  ∃ p:Nm×Nm,cs=[.string ⟨p.1.toArray⟩,.string ⟨p.2.toArray⟩]/\p.1.length<=maxLen/\p.2.length<=maxLen:=by
 obtain⟨fs,f0,f1,he,hf0,hf1,hs2,t0,t1,c0,c1,o0,o1⟩:∃ (fs:Array Field) (f0 f1:Field),Tryz.prog.underlying 49=some (.struct fs)/\fs[0]?=some f0/\fs[1]?=some f1/\fs.size=2/\Tryz.prog.underlying f0.type=some .string/\Tryz.prog.underlying f1.type=some .string/\Tryz.prog.cellsOf f0.type=1/\Tryz.prog.cellsOf f1.type=1/\f0.offset=0/\f1.offset=1:=
  ⟨_,_,_,Tryz.underlying49,rfl,rfl,rfl,Tryz.underlying9,Tryz.underlying9,by kernel_rfl,by kernel_rfl,rfl,rfl⟩
 have h2:Tryz.prog.cellsOf 49=2:=by kernel_rfl
 obtain⟨ys,m,_,_,hlen,hy,hf⟩:=DataW.trod_struct he h;rw[h2]at hlen;have g0:=hf 0 _ hf0;have g1:=hf 1 _ hf1;rw[c0,o0,Yax (by omega)]at g0;rw[c1,o1,Yax (by omega)]at g1
 match cs,hlen with
 | [a,b],_=>
  simp only[List.drop_zero,List.drop_succ_cons,Yaj,List.take_zero]at g0 g1;obtain⟨s0,e0,_,w0⟩:=DataW.trod_string t0 g0;obtain⟨s1,e1,_,w1⟩:=DataW.trod_string t1 g1;simp only[List.cons.injEq,and_true]at e0 e1;subst e0 e1;exact⟨(s0.data.toList,s1.data.toList),by simp,by show s0.data.toList.length<=maxLen;rw[Array.length_toList];exact w0,by show s1.data.toList.length<=maxLen;rw[Array.length_toList];exact w1⟩
theorem Qfa {A:Option Addr} {n c:Nat} {x:DataW H×List MemPlace} {fuel:Nat} {base:Nat} {spare:Nat->Bool} {held:Bool} (h:DataW.trod enc Tryz.prog w base spare held fuel 23 [.slice A n c]=some x) (_:Zuh 23 x.1):∃ l,DocsIn w A n l:=by
 have ht:Tryz.prog.underlying 23=some (.slice 49):=by kernel_rfl
 have h2:Tryz.prog.cellsOf 49=2:=by kernel_rfl
 rcases open_slice ht h with⟨hcs,_⟩|⟨a,len,cap,m,f,D,Pl,hcs,_,hl,hm,hmm,hx,hi⟩
 ·simp only[List.cons.injEq,Value.slice.injEq,and_true]at hcs
  obtain⟨rfl,rfl,rfl⟩:=hcs;exact⟨[],rfl,by unfold maxLen;omega,by simp,λ_=>rfl,λad e=>by cases e⟩
 ·simp only[List.cons.injEq,Value.slice.injEq,and_true]at hcs
  obtain⟨rfl,rfl,rfl⟩:=hcs;have hlm:n<=m:=by rw[hmm];split<;>omega
  have hex:∀ i,i<n->∃ p:Nm×Nm,(p.1.length<=maxLen/\p.2.length<=maxLen)/\w.cell? (a.add (i*2))=some (.string ⟨p.1.toArray⟩)/\w.cell? (a.add (i*2+1))=some (.string ⟨p.2.toArray⟩):=by
   intro i hlt;obtain⟨cs',hc,hd⟩:=hi i (by omega);rw[h2]at hc;obtain⟨p,rfl,h3,h4⟩:=Qe6 hd;obtain⟨_,_,hat⟩:=World.cells?_some hc;have k0:=hat 0 (by simp);have k1:=hat 1 (by simp);rw[add_add]at k0 k1;exact⟨p,⟨h3,h4⟩,k0,k1⟩
  have hw:∀ k,k<=n->∃ l:List (Nm×Nm),l.length=k/\∀ (i:Nat) (p:Nm×Nm),l[i]?=some p->(p.1.length<=maxLen/\p.2.length<=maxLen)/\w.cell? (a.add (i*2))=some (.string ⟨p.1.toArray⟩)/\w.cell? (a.add (i*2+1))=some (.string ⟨p.2.toArray⟩):=by
   intro k
   induction k with
   | zero=>intro _;exact⟨[],rfl,by simp⟩
   | succ k ih=>
    intro hk;obtain⟨l,h1,h4⟩:=ih (by omega);obtain⟨p,h5⟩:=hex k (by omega);refine⟨l++[p],by simp[h1],λi y hy=>?_⟩;rcases Yab i k with hik|hik
    ·rw[Yba (by omega)]at hy
     exact h4 i y hy
    ·have hlt:=(Ybb.1 hy).1
     simp[h1]at hlt;obtain rfl:i=k:=by omega
     rw[Ybc (by omega),h1,Ybq]at hy;simp at hy;subst hy;exact h5
  obtain⟨l,h1,h4⟩:=hw n (Yar _);refine⟨l,h1,by omega,λp hp=>?_,(λe=>by cases e),λad e i p hp=>?_⟩
  ·obtain⟨i,hi⟩:=List.getElem?_of_mem hp
   exact(h4 i p hi).1
  ·cases e
   exact(h4 i p hp).2
end
end
end Go.Proofs.YthcjikpabpgpfaaGreat
