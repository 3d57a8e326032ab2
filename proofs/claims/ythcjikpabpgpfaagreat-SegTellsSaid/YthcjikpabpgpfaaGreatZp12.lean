import Derived.Test.YthcjikpabpgpfaaGreatZp5
import Derived.DeepKeys4
import Derived.MapViews
import Derived.Maps.OwnSet
import Derived.Lib.AppendZerosOnto
import Derived.StillTailTactics
import Derived.Deep.RegionHeld3
import Derived.Deep.DeepCutAuto
set_option linter.unusedSimpArgs false
set_option maxHeartbeats 16000000
set_option maxRecDepth 100000
namespace Go.Proofs.YthcjikpabpgpfaaGreat
open Go.RowKit Go.Maps Go.WideMaps
theorem Qct:Keyed Tryz.prog 9:=string_keyed Tryz.underlying9
theorem Zy4:(73:TypeId)<Tryz.prog.types.size:=of_decide_eq_true (by kernel_rfl)
theorem Qb2:(match Tryz.prog.underlying 73 with|some (.array _ _)|some (.struct _)=>true|_=>false)=true:=by kernel_rfl
theorem pairKeyLaw:KeyLaw Tryz.prog 73:=deep_law_laid Znp (m:=3) (by omega) Zy4 (by kernel_rfl) Qb2
theorem Ziy:Keyed Tryz.prog 73:=Keyed.of_law pairKeyLaw
def pk (a b:Int):Lit:=.string (keyBytes [.int .i64 a,.int .i64 b])
theorem Zcn {a b:Int} (ha:Zaj a) (hb:Zaj b):keyOf Tryz.prog 73 (.agg #[.int .i64 a,.int .i64 b])=some (pk a b):=by
 have wa:(Lit.int .i64 a).wf=true:=WalkArith.wf_i64 ha;have wb:(Lit.int .i64 b).wf=true:=WalkArith.wf_i64 hb;have hu:=Tryz.underlying73;have hk:Tryz.prog.keyType 73=true:=by kernel_rfl
 have hc:Tryz.prog.cellsOf 73=2:=by kernel_rfl
 have hi:Tryz.prog.cellsOf 3=1:=by kernel_rfl
 have hsz:∃ m,Tryz.prog.types.size=m+1:=⟨_,(Nat.sub_add_cancel (Nat.lt_of_le_of_lt (Ybd _) Zy4)).symm⟩
 obtain⟨m,hm⟩:=hsz;unfold keyOf;simp only[hu];rw[Yag (by simp[hk,Value.formed,hu,hc]),hm];unfold Program.keyLits;simp only[hu,Value.cells];rw[Yag ⟨by rw[hc];rfl,by simp⟩];simp[hi,Program.keyLits,Tryz.underlying3,wa,wb,pk]
theorem Zwe {a b a' b':Int} (ha:Zaj a) (hb:Zaj b) (ha':Zaj a') (hb':Zaj b') (h:pk a b=pk a' b'):a=a'/\b=b':=by
 have e:=pairKeyLaw.inj (Zcn ha hb) (by rw[h];exact Zcn ha' hb');simpa using e
theorem Qb7 (w:World):(zeroValue 150).run Tryz.prog w=.ok (.agg #[]) w:=by kernel_rfl
theorem Zyp (w:World):(zeroValue 3).run Tryz.prog w=.ok (.int .i64 0) w:=by kernel_rfl
def Zn5 (L:List Nm) (s:Nm):Int:=if 0<=Zbb L s then Zbb L s else 0
structure TokMap (D:DataW Unit) (L:List Nm):Prop where
 isMap:IsMap D
 has:∀ s:Nm,Maps.has D (.string s)=decide (0<=Zbb L s)
 at_:∀ s:Nm,D.atKey (.string s) (.lit (.int .i64 0))=.lit (.int .i64 (Zn5 L s))
structure PairMap (D:DataW Unit) (M:List Mg):Prop where
 isMap:IsMap D
 has:∀ a b,Zaj a->Zaj b->Maps.has D (pk a b)=Zba M a b
theorem TokMap.nil:TokMap (.map []) []:=⟨isMap_empty,λ_=>rfl,λ_=>rfl⟩
theorem PairMap.nil:PairMap (.map []) []:=⟨isMap_empty,λ_ _ _ _=>rfl⟩
theorem Zjc {L:List Nm} {x:Nm} (h:Zbb L x<0) (s:Nm):Zbb (L++[x]) s=if s=x then (L.length:Int) else Zbb L s:=by
 split
 ·rename_i e
  subst e;rcases Zc1 L s with⟨_,hn⟩|⟨i,hi,_⟩
  ·exact Zio (by simp) λj y hj hy=>by
    rw[Yba hj]at hy;exact hn y (Ybz hy)
  ·omega
 ·rename_i e
  rcases Zc1 L s with⟨h1,hn⟩|⟨i,hi,hx,hn⟩
  ·rw[h1]
   exact Ziu λy hy=>by
    rcases Ybj.1 hy with hy|hy
    ·exact hn y hy
    ·rw[Ybi.1 hy];exact λe2=>e e2.symm
  ·have hlt:=(Ybb.1 hx).1
   rw[hi];exact Zio (by rw[Yba hlt];exact hx) λj y hj hy=>by
    rw[Yba (by omega)]at hy;exact hn j y hj hy
theorem Zso (s:Nm):WideAt.IsKeyLit (.string s):=trivial
theorem TokMap.put {D:DataW Unit} {L:List Nm} (h:TokMap D L) {x:Nm} (hx:Zbb L x<0):TokMap (D.put (.string x) (.lit (.int .i64 (L.length:Nat)))) (L++[x]):=by
 refine⟨h.isMap.put _ _,λs=>?_,λs=>?_⟩
 ·rw[Zjc hx]
  by_cases e:s=x
  ·subst e
   rw[has_put_same h.isMap (Zso s),Yag rfl,Yb0 (by omega)]
  ·rw[has_put_other (λe2=>e (by injection e2)),Yaf e,h.has]
 ·unfold Zn5
  rw[Zjc hx];by_cases e:s=x
  ·subst e
   rw[atKey_put_same h.isMap (Zso s),Yag rfl,Yag (by omega)]
  ·rw[atKey_put_other (λe2=>e (by injection e2)),Yaf e,h.at_]
   rfl
theorem Zp8 (M:List Mg) (m:Mg) (a b:Int):Zba (M++[m]) a b=(Zba M a b||((m.a==a)&&(m.b==b))):=by
 unfold Zba;simp[List.any_append]
theorem PairMap.put {D:DataW Unit} {M:List Mg} (h:PairMap D M) {m:Mg} (ha:Zaj m.a) (hb:Zaj m.b) (d:DataW Unit):PairMap (D.put (pk m.a m.b) d) (M++[m]):=by
 refine⟨h.isMap.put _ _,λa b fa fb=>?_⟩;rw[Zp8];by_cases e:pk a b=pk m.a m.b
 ·obtain⟨rfl,rfl⟩:=Zwe fa fb ha hb e
  rw[has_put_same h.isMap (show WideAt.IsKeyLit (pk m.a m.b)from trivial)];simp
 ·rw[has_put_other e,h.has a b fa fb]
  have:((m.a==a)&&(m.b==b))=false:=by
   rw[Yb1];intro e2;simp at e2;exact e (by rw[<- e2.1,<- e2.2])
  rw[this,Bool.or_false]
abbrev Zxv (w:World) (b n:Nat) (D:DataW Unit):Prop:=w.ownsMap Tryz.prog 9 (plainElem Tryz.prog 3) b n D
abbrev Zip (w:World) (b n:Nat) (D:DataW Unit):Prop:=w.ownsMap Tryz.prog 73 unitElem b n D
theorem Ztl {w:World} {b n:Nat} {D:DataW Unit} {L:List Nm} (h:Zxv w b n D) (hT:TokMap D L) (s:Nm) (hs:s.length<=maxLen):
  (Instr.lookup 218 (.map (some b)) (.string ⟨s.toArray⟩) true).run Tryz.prog w=.ok (.tuple #[.int .i64 (Zn5 L s),.bool (decide (0<=Zbb L s))]) w:=by
 have hkey:keyOf Tryz.prog 9 (.string ⟨s.toArray⟩)=some (.string s):=by
  have:=keyOf_string_mk Tryz.underlying9 (s:=⟨s.toArray⟩) (by simpa[ByteArray.size]using hs)
  simpa using this
 obtain⟨v,ps,hrun,hv⟩:=h.look_ok Qct Tryz.underlying218 (Zyp _) (plainElem_int Tryz.underlying3 (by decide)) hkey;obtain⟨c,rfl,hc,_⟩:=plainElem_int_inv Tryz.underlying3 hv;rw[hT.has]at hrun;rw[hT.at_]at hc;simp only[Prod.mk.injEq,DataW.lit.injEq,Lit.int.injEq,true_and]at hc;rw[hrun,hc.1]
theorem Zyd {w:World} {b n:Nat} {D:DataW Unit} {M:List Mg} (h:Zip w b n D) (hP:PairMap D M) {x y:Int} (hx:Zaj x) (hy:Zaj y):
  (Instr.lookup 219 (.map (some b)) (.agg #[.int .i64 x,.int .i64 y]) true).run Tryz.prog w=.ok (.tuple #[.agg #[],.bool (Zba M x y)]) w:=by
 obtain⟨v,ps,hrun,hv⟩:=h.look_ok Ziy Tryz.underlying219 (Qb7 _) unitElem_mk (Zcn hx hy);obtain⟨rfl,_⟩:=unitElem_inv hv;rw[hP.has x y hx hy]at hrun;exact hrun
def Own (F:Nat->Prop) (w w':World) (i:Nat):Prop:=F i\/(w.heap.size<=i/\i<w'.heap.size)
def Zav (m:Mg):List Value:=[.int .i64 m.a,.int .i64 m.b,.int .i64 m.t]
def Zjn (m:Mg):Prop:=Zaj m.a/\Zaj m.b/\Zaj m.t
def TokIn (w:World) (F:Nat->Prop) (sv:Value) (x:Nm):Prop:=∃ A c,sv=.slice A x.length c/\x.length<=c/\BytesIn w A x.length x/\∀ ad,A=some ad->0<x.length->¬ F ad.block
structure IsGrow (w:World) (F:Nat->Prop) (b:Nat) (V:Voc) (tv mv:Value) (bt bp:Nat) (svs:List Value) (DT DP:DataW Unit):Prop where
 blk:Blk w b 221 #[tv,mv,.map (some bt),.map (some bp)]
 trow:w.ownsRow 0 24 1 tv V.tok.length svs
 toks:∀ (i:Nat) (sv:Value) (x:Nm),svs[i]?=some sv->V.tok[i]?=some x->TokIn w F sv x
 mrow:w.ownsRow 0 88 3 mv V.mer.length (V.mer.flatMap Zav)
 fits:∀ m∈V.mer,Zjn m
 tmap:Zxv w bt V.tok.length DT
 pmap:Zip w bp V.mer.length DP
 isT:TokMap DT V.tok
 isP:PairMap DP V.mer
 nob:bt≠bp
 fb:F b
 ft:F bt
 fp:F bp
 fv:∀ g,tv.ownBlock=some g->F g
 fm:∀ g,mv.ownBlock=some g->F g
 lt:∀ i,F i->i<w.heap.size
def Grow (w:World) (F:Nat->Prop) (b:Nat) (V:Voc):Prop:=∃ tv mv bt bp svs DT DP,IsGrow w F b V tv mv bt bp svs DT DP
theorem TokIn.mono {w w':World} {F F':Nat->Prop} {sv:Value} {x:Nm} (h:TokIn w F sv x) {G:Nat->Prop} (hk:Kept G w w') (hG:∀ i,G i->F i) (hF:∀ i,F' i->F i\/w.heap.size<=i):TokIn w' F' sv x:=by
 obtain⟨A,c,h1,h2,h3,h4⟩:=h;refine⟨A,c,h1,h2,⟨h3.1,h3.2.1.keep λad e h0=>hk.block _ (h3.2.2 ad e h0) λhf=>h4 ad e h0 (hG _ hf),λad e h0=>Ya7 (h3.2.2 ad e h0) hk.size⟩,λad e h0 hf=>?_⟩;rcases hF _ hf with h|h
 ·exact h4 ad e h0 h
 ·have:=h3.2.2 ad e h0;omega
theorem Blk.same {w w':World} {g:Nat} {t:TypeId} {cs:Array Value} (h:Blk w g t cs) (e:w'.heap[g]?=w.heap[g]?):Blk w' g t cs:=e.trans h
theorem IsGrow.kept {w w':World} {F:Nat->Prop} {b:Nat} {V:Voc} {tv mv:Value} {bt bp:Nat} {svs:List Value} {DT DP:DataW Unit} (h:IsGrow w F b V tv mv bt bp svs DT DP) (hb:Below w.heap.size w w'):IsGrow w' F b V tv mv bt bp svs DT DP where
 blk:=h.blk.same (hb.block _ (h.lt _ h.fb))
 trow:=Zab h.trow λg hg=>hb.block g (h.lt g (h.fv g hg))
 toks:=λi sv x h1 h2=>(h.toks i sv x h1 h2).mono (G:=λ_=>False) (Kept.below hb) (λ_=>False.elim) (λ_ hf=>.inl hf)
 mrow:=Zab h.mrow λg hg=>hb.block g (h.lt g (h.fm g hg))
 fits:=h.fits
 tmap:=Zap h.tmap (hb.block _ (h.lt _ h.ft))
 pmap:=Zap h.pmap (hb.block _ (h.lt _ h.fp))
 isT:=h.isT
 isP:=h.isP
 nob:=h.nob
 fb:=h.fb
 ft:=h.ft
 fp:=h.fp
 fv:=h.fv
 fm:=h.fm
 lt:=λi hi=>Ya7 (h.lt i hi) hb.size
theorem Grow.kept {w w':World} {F:Nat->Prop} {b:Nat} {V:Voc} (h:Grow w F b V) (hb:Below w.heap.size w w'):Grow w' F b V:=by
 obtain⟨tv,mv,bt,bp,svs,DT,DP,h⟩:=h;exact⟨tv,mv,bt,bp,svs,DT,DP,h.kept hb⟩
theorem Zlu (w:World):
  Calls Tryz.prog 87 #[] w λe w'=>∃ b,e=.returned (at0 b)/\Grow w' (λi=>w.heap.size<=i/\i<w'.heap.size) b ⟨[],[]⟩/\Below w.heap.size w w':=by
 have hmm:=@run_makeMap Tryz.prog;go_enter Tryz.func87,Tryz.ntmps87;go_wp2;go_ret;have b1:Below w.heap.size w (w.alloc (.map #[] 0)):=(Ybm _ w).alloc (Yar _) _;have b2:Below w.heap.size w ((w.alloc (.map #[] 0)).alloc (.map #[] 0)):=b1.alloc (by simp) _;refine⟨_,rfl,⟨.slice none 0 0,.slice none 0 0,w.heap.size,w.heap.size+1,[],.map [],.map [],?_⟩,b2.alloc (by simp;omega) _⟩;have m1:Zxv (((w.alloc (.map #[] 0)).alloc (.map #[] 0)).alloc (.cells #[.slice none 0 0,.slice none 0 0,.map (some w.heap.size),.map (some (w.heap.size+1))] 221)) w.heap.size 0 (.map []):=
  ((World.ownsMap_made w _ _ _).alloc _).alloc _
 have m2:Zip (((w.alloc (.map #[] 0)).alloc (.map #[] 0)).alloc (.cells #[.slice none 0 0,.slice none 0 0,.map (some w.heap.size),.map (some (w.heap.size+1))] 221)) (w.heap.size+1) 0 (.map []):=by
  have h:=(World.ownsMap_made (H:=Unit) (w.alloc (.map #[] 0)) Tryz.prog 73 unitElem)
  simp only[World.size_alloc]at h;exact h.alloc _
 exact {
  blk:=by
   have h:=Blk.new ((w.alloc (.map #[] 0)).alloc (.map #[] 0)) 221 #[.slice none 0 0,.slice none 0 0,.map (some w.heap.size),.map (some (w.heap.size+1))];simpa using h
  trow:=Yb2 _ _ _ _
  toks:=λi sv x h1 _=>by simp at h1
  mrow:=Yb2 _ _ _ _
  fits:=λm h=>by simp at h
  tmap:=m1
  pmap:=m2
  isT:=TokMap.nil
  isP:=PairMap.nil
  nob:=by omega
  fb:=by simp;omega
  ft:=by simp;omega
  fp:=by simp
  fv:=λg h=>by simp[Value.ownBlock]at h
  fm:=λg h=>by simp[Value.ownBlock]at h
  lt:=λi hi=>hi.2 }
theorem Zqj (w:World) (F:Nat->Prop) (b:Nat) (V:Voc) (hG:Grow w F b V) (i:Int):
  Calls Tryz.prog 173 #[at0 b,.int .i64 i] w λe w'=>e=.returned (.bool (decide (0<=i/\i<V.tok.length)))/\w'=w:=by
 obtain⟨tv,mv,bt,bp,svs,DT,DP,h⟩:=hG;obtain⟨A,c,rfl⟩:=Zac h.trow;have e0:=h.blk.cell 0;simp only[lz0,lz1]at e0;obtain⟨n,hn⟩:=Ze V.tok.length;rw[<- hn]at e0 ⊢;clear h hn;unfold at0;by_cases h1:i<0
 ·rw[Ybt (by omega)]
  go_enter Tryz.func173,Tryz.ntmps173;go_wp2;go_ret;exact⟨rfl,rfl⟩
 ·have h1':0<=i:=by omega
  by_cases h2:i<(n:Int)
  ·rw[Yb0 (by omega)]
   go_enter Tryz.func173,Tryz.ntmps173;go_wp2;go_ret;exact⟨rfl,rfl⟩
  ·rw[Ybt (by omega)]
   go_enter Tryz.func173,Tryz.ntmps173;go_wp2;go_ret;exact⟨rfl,rfl⟩
theorem Zy3:(Tryz.prog.info? 73).map (·.size)=some 2:=by kernel_rfl
theorem Zgt (w:World) (a b t:Int):
  Calls Tryz.prog 136 #[.agg #[.int .i64 a,.int .i64 b,.int .i64 t]] w λe w'=>e=.returned (.agg #[.int .i64 a,.int .i64 b])/\Below w.heap.size w w':=by
 go_enter Tryz.func136,Tryz.ntmps136;go_wp2;refine bodyPost_ret (results_cell_row rfl _ _ (w.heap.size+1) 73 #[.int .i64 a,.int .i64 b] (0,0) _ rfl ?_ Tryz.underlying73 rfl Zy3) rfl ⟨rfl,?_⟩
 ·have h:=Blk.new (w.alloc (.cells #[.int .i64 a,.int .i64 b,.int .i64 t] 88)) 73 #[.int .i64 a,.int .i64 b]
  simpa[Blk]using h
 ·exact((Ybm _ w).alloc (Yar _) _).alloc (by simp) _
theorem Zn9 (w:World) (F:Nat->Prop) (b:Nat) (V:Voc) (hG:Grow w F b V) (A:Option Addr) (n c:Nat) (x:Nm) (hx:BytesIn w A n x):
  Calls Tryz.prog 135 #[at0 b,.slice A n c] w λe w'=>e=.returned (.bool (decide (0<=Zbb V.tok x)))/\Below w.heap.size w w':=by
 obtain⟨tv,mv,bt,bp,svs,DT,DP,h⟩:=hG;have hxn:x.length<=maxLen:=by have:=hx.2.1.len;have:=hx.1;simp at *;omega
 have e2:∀ q,(w.drewN q).cell? ⟨b,2,none⟩=some (.map (some bt)):=λq=>by
  have:=(h.blk.drewN q).cell 2
  simpa using this
 have hlk:∀ q,(Instr.lookup 218 (.map (some bt)) (.string ⟨x.toArray⟩) true).run Tryz.prog (w.drewN q)=.ok (.tuple #[.int .i64 (Zn5 V.tok x),.bool (decide (0<=Zbb V.tok x))]) (w.drewN q):=λq=>Ztl (w:=w.drewN q) (Zap h.tmap rfl) h.isT x hxn;have hcv:∀ q,(convert 24 9 (.slice A n c)).run Tryz.prog (w.drewN q)=.ok (.string ⟨x.toArray⟩) (w.drewN q):=λq=>Zdx (hx.drewN q) c;obtain⟨R,hR⟩:=Ze (decide (0<=Zbb V.tok x));rw[<- hR];rw[<- hR]at hlk;obtain⟨T,hT⟩:=Ze (Zn5 V.tok x);rw[<- hT]at hlk;clear h hx hR hT;unfold at0;go_enter Tryz.func135,Tryz.ntmps135;go_wp2_with fail;go_quiet (fail);go_wp2;go_ret;exact⟨rfl,Zaf (Ybm _ _) _⟩
theorem Zgn (w:World) (F:Nat->Prop) (b:Nat) (V:Voc) (hG:Grow w F b V) (i:Int) {r:Bool} (hr:decide (0<=i/\i<V.tok.length)=r):
  Calls Tryz.prog 173 #[at0 b,.int .i64 i] w λe w'=>e=.returned (.bool r)/\w'=w:=by
 have h:=Zqj w F b V hG i;rw[hr]at h;exact h
theorem Zup (w:World) (F:Nat->Prop) (b:Nat) (V:Voc) (hG:Grow w F b V) (x y:Int) (hx:Zaj x) (hy:Zaj y):
  Calls Tryz.prog 137 #[at0 b,.agg #[.int .i64 x,.int .i64 y]] w λe w'=>e=.returned (.bool (decide (0<=x/\x<V.tok.length)&&(decide (0<=y/\y<V.tok.length)&&!(Zba V.mer x y))))/\Below w.heap.size w w':=by
 have HG:=Zh hG;obtain⟨tv,mv,bt,bp,svs,DT,DP,h⟩:=hG;have HB:=Zh h.blk;have HP:=Zh h.pmap;have HI:=Zh h.isP;obtain⟨R,hR⟩:=Ze (Zba V.mer x y);rw[<- hR];have hb1:∀ w',Below w.heap.size w w'->w'.cell? ⟨b,3,none⟩=some (.map (some bp)):=λw' hb=>by
  have:=(HB.out.below hb HB.out.lt).cell 3
  simpa using this
 have hlk:∀ w',Below w.heap.size w w'->(Instr.lookup 219 (.map (some bp)) (.agg #[.int .i64 x,.int .i64 y]) true).run Tryz.prog w'=.ok (.tuple #[.agg #[],.bool R]) w':=λw' hb=>by
  rw[hR];exact Zyd (Zap HP.out (hb.block _ HP.out.lt)) HI.out hx hy
 have HL:=Zh hlk;have HC:=Zh hb1;have b1:Below w.heap.size w (w.alloc (.cells #[.int .i64 x,.int .i64 y] 73)):=(Ybm _ w).alloc (Yar _) _;have b2:Below w.heap.size w ((w.alloc (.cells #[.int .i64 x,.int .i64 y] 73)).alloc (.cells #[] 150)):=b1.alloc (by simp) _;have B1:=Zh b1;have B2:=Zh b2;clear h hR hb1 hlk b1 b2;have c1:=HC.out _ B1.out;have c2:=HC.out _ B2.out;have l1:=HL.out _ B1.out.drew;have l2:=HL.out _ B2.out.drew;unfold at0;go_enter Tryz.func137,Tryz.ntmps137;go_wp2;go_region;all_goals
  have GW:=Zh (HG.out.kept B2.out.drew);have BF:=Zh B2.out.drew;clear HL HC B1 B2 HP HI HB HG c1 c2 l1 l2;cases q1:decide (0<=x/\x<V.tok.length)with
  | false=>
   have Q1:=Zh q1;clear q1;go_wp2_with fail;refine(Zgn _ F b V GW.out x Q1.out).mono ?_;rintro e w2 ⟨rfl,rfl⟩;go_wp2;go_ret;exact⟨by rw[Q1.out];rfl,BF.out⟩
  | true=>
   have Q1:=Zh q1;clear q1;go_wp2_with fail;refine(Zgn _ F b V GW.out x Q1.out).mono ?_;rintro e w2 ⟨rfl,rfl⟩;cases q2:decide (0<=y/\y<V.tok.length)with
   | false=>
    have Q2:=Zh q2;clear q2;go_wp2_with fail;refine(Zgn _ F b V GW.out y Q2.out).mono ?_;rintro e w2 ⟨rfl,rfl⟩;go_wp2;go_ret;exact⟨by rw[Q1.out,Q2.out];rfl,BF.out⟩
   | true=>
    have Q2:=Zh q2;clear q2;go_wp2_with fail;refine(Zgn _ F b V GW.out y Q2.out).mono ?_;rintro e w2 ⟨rfl,rfl⟩;go_wp2;go_ret;exact⟨by rw[Q1.out,Q2.out];simp,BF.out⟩
theorem Zwm (w:World) (n:Nat) (h0:0<n) (hn:n<=1099511627776):
  Calls Tryz.prog 79 #[.slice none 0 0,.int .i64 n] w λe w'=>∃ c,e=.returned (.slice (some ⟨w.heap.size,0,none⟩) 0 c)/\w'.ownsRow w.heap.size 5 1 (.slice (some ⟨w.heap.size,0,none⟩) 0 c) 0 []/\Below w.heap.size w w':=by
 obtain⟨i0,hi,hz0,hz1,hz2⟩:=info_parts Za9;have hG:=grownCap_le_maxLen w n 0 5 (by unfold maxLen;omega);have hGn:n<=grownCap w n 0 5:=grownCap_ge w _ _ _;have hfit:Builtin.nextslicecap n 0*i0.bytes<=281474976710656:=growslice_fits (by omega) (by rw[hz2];omega);have hrz:∀ ty,(Builtin.append_ #[24,3] ty #[.slice none 0 0,.int .i64 (n:Int)]).run Tryz.prog w=
   .ok (.slice (some ⟨w.heap.size,0,none⟩) n (grownCap w n 0 5)) (w.drew.alloc (.cells (#[]++Builtin.zeroCells (Value.int .u8 0).cells n++Builtin.zeroCells (Value.int .u8 0).cells (grownCap w n 0 5-n)) 5)):=λty=>by
  have h:=Lib.run_append_grow_zeros w 24 3 ty 5 i0 (.int .u8 0) .i64 .i64 Tryz.underlying24 Tryz.underlying3 hi hz0 none 0 0 [] (run_firstCells_none w.drew i0.size 0 0 0) n h0 (by rw[hz1];omega) (by omega) (by omega) (by rw[hz2];omega) (by simpa using hfit);simpa using h
 obtain⟨G,hGe⟩:=Ze (grownCap w n 0 5);rw[<- hGe]at hG hGn hrz;have hown:=Ybx (base:=w.heap.size) (e:=5) (size:=1) w.drew (#[]++Builtin.zeroCells (Value.int .u8 0).cells n++Builtin.zeroCells (Value.int .u8 0).cells (G-n)) G (Yar _) hG (by
  simp only[Array.size_append,size_zeroCells];have:(Value.int .u8 0).cells.size=1:=rfl;rw[this];simp;omega)
 have hbel:Below w.heap.size w (w.drew.alloc (.cells (#[]++Builtin.zeroCells (Value.int .u8 0).cells n++Builtin.zeroCells (Value.int .u8 0).cells (G-n)) 5)):=(Ybm _ w).drew.alloc (Yar _) _;obtain⟨W2,hW2⟩:=Ze (w.drew.alloc (.cells (#[]++Builtin.zeroCells (Value.int .u8 0).cells n++Builtin.zeroCells (Value.int .u8 0).cells (G-n)) 5));rw[<- hW2]at hrz hown hbel;have HO:=Zh hown;have HB:=Zh hbel;have hs0:∀ w:World,(Instr.slice 24 (.slice none 0 0) none (some (.int .i64 0)) none).run Tryz.prog w=.ok (.slice none 0 0) w:=λw=>by
  have:=Zgr w none 0 0 0 (Yar _)
  simpa using this
 have hs1:∀ w1:World,(Instr.slice 24 (.slice (some ⟨w.heap.size,0,none⟩) n G) none (some (.int .i64 0)) none).run Tryz.prog w1=.ok (.slice (some ⟨w.heap.size,0,none⟩) 0 G) w1:=λw1=>by
  have:=Zgr w1 (some ⟨w.heap.size,0,none⟩) n G 0 (Ybd _)
  simpa using this
 have p1:(0:Int)<(n:Int):=by omega
 have p2:¬ (n:Int)<0:=by omega
 have p3:(n:Int)<=1099511627776:=by omega
 clear hG hGn hfit hGe hown hbel hW2 hi hz0 hz1 hz2;go_enter Tryz.func79,Tryz.ntmps79;go_wp2_with (at_builtin;refine Lib.wpList_append_run _ rfl _ _ _ _ rfl _ _ rfl rfl _ _ (hrz _) ?_);go_ret;exact⟨G,rfl,HO.out,HB.out⟩
theorem Zxb (x:Nm):∀ u∈x.map byteV,u.oneCell'=true:=Zbm x
theorem Zu5 (w:World) (g:Nat) (A B:Option Addr) (n m c d:Nat) (x y:Nm) (hg:Blk w g 24 #[.slice A n c,.slice B m d]) (hx:BytesIn w A n x) (hy:BytesIn w B m y) (h0:0<n+m) (hn:n<=1048576) (hm:m<=1048576):
  Calls Tryz.prog 34 #[.slice (some ⟨g,0,none⟩) 2 2] w λe w'=>∃ v,e=.returned v/\w'.ownsRow w.heap.size 5 1 v (n+m) ((x++y).map byteV)/\Below w.heap.size w w':=by
 obtain⟨i0,hi,hz0,hz1,hz2⟩:=info_parts Za9;have HG:=Zh hg;have HX:=Zh hx;have HY:=Zh hy;have e0:=hg.cell 0;have e1:=hg.cell 1;simp only[lz0,lz1,lz2]at e0 e1;have p1:¬ ((n:Int)<0):=by omega
 obtain⟨t,ht⟩:∃ t:Nat,t=n+m:=⟨_,rfl⟩
 have ht':(n:Int)+(m:Int)=(t:Int):=by omega
 have ht2:t<=2097152:=by omega
 have p2:¬ ((t:Int)<0):=by omega
 have HT:=Zh ht;have p3:0<t:=by omega
 clear ht;clear hg hx hy;go_enter Tryz.func34,Tryz.ntmps34;go_wp2;refine wp_loop_rounds 3 ?_;rw[rounds_succ];go_wp2;rw[rounds_succ];go_wp2;rw[rounds_succ];go_wp2_with fail;refine(Zwm _ t p3 (by omega)).mono ?_;rintro e w1 ⟨c1,rfl,hown,hb⟩;have e0':=(HG.out.below hb HG.out.lt).cell 0;have e1':=(HG.out.below hb HG.out.lt).cell 1;simp only[lz0,lz1,lz2]at e0' e1';have HO:=Zh hown;have HB:=Zh hb;have X1:=Zh (HX.out.below hb);have Y1:=Zh (HY.out.below hb);have hsz:=hb.size;clear hown hb ht' e0 e1;go_wp2;refine wp_loop_rounds 3 ?_;rw[rounds_succ];go_wp2_with (at_builtin;refine Zae _ rfl _ _ 24 rfl w.heap.size 5 i0 (.int .u8 0) 1 Tryz.underlying24 hi hz0 hz1 hz2 rfl _ 0 [] rfl HO.out A n c (x.map byteV) rfl X1.out.2.1 (Zxb x) (by unfold maxLen;omega) (by omega) hsz ?_;intro v2 w2 hown2 hgrow2 hloc2;rw[Ya4,Yad]at hown2);have hb2:Below w.heap.size w w2:=HB.out.grown hgrow2 hsz (λk e=>by cases e;exact Yar _);have HB2:=Zh hb2;have HO2:=Zh hown2;have hsz2:=hb2.size;have Y2:=Zh (HY.out.below hb2);have e1'':=(HG.out.below hb2 HG.out.lt).cell 1;simp only[lz0,lz1,lz2]at e1'';clear hb2 hown2 hgrow2 hloc2 e0' e1' hsz;obtain⟨A2,cc2,rfl⟩:=Zac HO2.out;rw[rounds_succ];go_wp2_with (at_builtin;refine Zae _ rfl _ _ 24 rfl w.heap.size 5 i0 (.int .u8 0) 1 Tryz.underlying24 hi hz0 hz1 hz2 rfl _ n (x.map byteV) rfl HO2.out B m d (y.map byteV) rfl Y2.out.2.1 (Zxb y) (by unfold maxLen;omega) (by omega) hsz2 ?_;intro v3 w3 hown3 hgrow3 hloc3);have hb3:Below w.heap.size w w3:=HB2.out.grown hgrow3 hsz2 (λk e=>(HO2.out.lt k e).1);have HB3:=Zh hb3;rw[<- Ybe]at hown3;have HO3:=Zh hown3;clear hb3 hown3 hgrow3 hloc3 e1'';rw[rounds_succ];go_wp2;go_ret;exact⟨_,rfl,HO3.out,HB3.out⟩
structure IsR3 (w:World) (b:Nat) (s:Rd) (A:Option Addr) (c:Nat):Prop where
 blk:Blk w b 117 #[.slice A s.bs.length c,.int .i64 s.p,.int .i64 s.e]
 bytes:BytesIn w A s.bs.length s.bs
 cap:s.bs.length<=c
 apart:∀ ad,A=some ad->0<s.bs.length->ad.block≠b
 ok:s.Ok
 fit:s.bs.length<=1099511627776
theorem BytesIn.keep {w w':World} {A:Option Addr} {n:Nat} {l:Nm} (h:BytesIn w A n l) {F:Nat->Prop} (hk:Kept F w w') (ha:∀ ad,A=some ad->0<n->¬ F ad.block):BytesIn w' A n l:=
 ⟨h.1,h.2.1.keep λad e h0=>hk.block _ (h.2.2 ad e h0) (ha ad e h0),λad e h0=>Ya7 (h.2.2 ad e h0) hk.size⟩
theorem IsR3.drewN {w:World} {b:Nat} {s:Rd} {A:Option Addr} {c:Nat} (h:IsR3 w b s A c) (q:Nat):IsR3 (w.drewN q) b s A c:=⟨h.blk,h.bytes.drewN q,h.cap,h.apart,h.ok,h.fit⟩
theorem Zib (w:World) (b j:Nat) (u:Value) (q:Nat):Kept (λi=>i=b) w ((w.drewN q).setCell ⟨b,j,none⟩ u):=((Kept.refl (λi=>i=b) w).drewN q).setCell (.inl rfl) u
theorem IsR3.put {w:World} {b:Nat} {s s':Rd} {A:Option Addr} {c:Nat} (h:IsR3 w b s A c) (hbs:s'.bs=s.bs) (hok:s'.Ok) {j:Nat} {u:Value} (hu:(#[.slice A s.bs.length c,.int .i64 s.p,.int .i64 s.e]:Array Value).setIfInBounds j u=#[.slice A s.bs.length c,.int .i64 s'.p,.int .i64 s'.e]):IsR3 (w.setCell ⟨b,j,none⟩ u) b s' A c:=by
 have hk:Kept (λi=>i=b) w (w.setCell ⟨b,j,none⟩ u):=(Kept.refl (λi=>i=b) w).setCell (.inl rfl) u;refine⟨?_,?_,by rw[hbs];exact h.cap,by rw[hbs];exact h.apart,hok,by rw[hbs];exact h.fit⟩
 ·rw[hbs,<- hu];exact h.blk.set_ j u
 ·rw[hbs];exact h.bytes.keep hk h.apart
theorem Zin (w:World) (b:Nat) (s:Rd) (A:Option Addr) (c:Nat) (hR:IsR3 w b s A c) (most:Int) (hm1:-9223372036854775808<=most) (hm2:most<=9223372036854775807):
  Calls Tryz.prog 55 #[at0 b,.int .i64 most] w λe w'=>e=.returned (.int .i64 (rInt s most).1)/\IsR3 w' b (rInt s most).2 A c/\Kept (λi=>i=b) w w':=by
 have HR:=Zh hR;have c0:=hR.blk.cell 0;have c1:=hR.blk.cell 1;have c2:=hR.blk.cell 2;have z1:=hR.blk.frozen 1;have z2:=hR.blk.frozen 2;simp at c0 c1 c2;have hp:=hR.ok.place;have hfit:=hR.fit;clear hR;unfold at0;by_cases he:s.e=0
 ·have d0:(s.e != 0)=false:=by simpa using he
  have s1:∀ w,(Instr.slice 24 (.slice A s.bs.length c) (some (.int .i64 s.p)) none none).run Tryz.prog w=.ok (.slice (Zak A s.p c) (s.bs.length-s.p) (c-s.p)) w:=λw=>Zbf w A s.bs.length c s.p hp;have hsub:=HR.out.bytes.sub HR.out.cap s.p s.bs.length hp (Yar _);rw[Yav (Yar _)]at hsub;have HSUB:=Zh hsub;clear hsub;obtain⟨v,j,e,hg⟩:∃ v j e,getL (s.bs.drop s.p)=(v,j,e):=⟨_,_,_,rfl⟩
  have HGG:=Zh hg;clear hg;have hres:rInt s most=if e≠0 then (0,{ s with e:=e }) else if most<0\/most<(v:Int) then (0,{ s with e:=32 }) else ((v:Int),{ s with p:=s.p+j }):=by
   unfold rInt;rw[Yaf (by simpa using he),HGG.out]
  obtain⟨r,hr⟩:=Ze (rInt s most);rw[<- hr];have HRES:=Zh (hr.trans hres);have HE:=Zh he;clear hres he hr;go_enter Tryz.func55,Tryz.ntmps55;go_wp2;go_quiet (first|(go_at_call 109;refine Calls.quiet_of_same (Zik _ (Zak A s.p c) (s.bs.length-s.p) (c-s.p) (s.bs.drop s.p) (HSUB.out.drewN _) HGG.out)));by_cases he:e=0
  ·subst he
   by_cases hm:most<0
   ·have d1:decide (most<0)=true:=by simpa using hm
    have hres:=HRES.out;rw[Yaf (by simp),Yag (.inl hm)]at hres;have HS:=Zh hres;clear hres;go_wp2;go_ret;rw[HS.out];exact⟨rfl,(HR.out.drewN _).put (s':={ s with e:=32 }) rfl ⟨HR.out.ok.place⟩ rfl,Zib _ _ _ _ _⟩
   have d1:decide (most<0)=false:=by simpa using hm
   have hwm:IntKind.u64.wrap most=most:=by rw[Yby];omega
   by_cases hv:most<(v:Int)
   ·have d2:decide (most<(v:Int))=true:=by simpa using hv
    have hres:=HRES.out;rw[Yaf (by simp),Yag (.inr hv)]at hres;have HS:=Zh hres;clear hres;go_wp2;go_ret;rw[HS.out];exact⟨rfl,(HR.out.drewN _).put (s':={ s with e:=32 }) rfl ⟨HR.out.ok.place⟩ rfl,Zib _ _ _ _ _⟩
   ·have d2:decide (most<(v:Int))=false:=by simpa using hv
    have hres:=HRES.out;rw[Yaf (by simp),Yaf (by omega)]at hres;have hgi:=Zby HGG.out;obtain⟨q1,q2,q3,q4,q5⟩:=hgi;rw[Yas]at q3;obtain⟨P,hP⟩:=Ze (s.p+j);have hPz:IntKind.i64.wrap ((s.p:Int)+(j:Int))=(P:Int):=by rw[Ybo _ (by omega)];omega
    have hvz:IntKind.i64.wrap (v:Int)=(v:Int):=Ybo _ (by omega);have hok:Rd.Ok { s with p:=P }:=⟨by simp only;omega⟩
    rw[<- hP]at hres;have HS:=Zh hres;have HOK:=Zh hok;clear hres q4 hP hok;go_wp2;go_ret;rw[HS.out];exact⟨rfl,(HR.out.drewN _).put (s':={ s with p:=P }) rfl HOK.out rfl,Zib _ _ _ _ _⟩
  ·have d1:(e==0)=false:=by simpa using he
   have d2:(e != 0)=true:=by simpa using he
   have hres:=HRES.out;rw[Yag he]at hres;have HS:=Zh hres;clear hres he;go_wp2;go_ret;rw[HS.out];exact⟨rfl,(HR.out.drewN _).put (s':={ s with e:=e }) rfl ⟨HR.out.ok.place⟩ rfl,Zib _ _ _ _ _⟩
 ·have d0:(s.e != 0)=true:=by simpa using he
  have hres:rInt s most=(0,s):=by
   unfold rInt;rw[Yag he]
  rw[hres];clear hres he;go_enter Tryz.func55,Tryz.ntmps55;go_wp2;go_ret;exact⟨rfl,HR.out,Kept.refl _ _⟩
theorem Zir (w:World) (b:Nat) (s:Rd) (A:Option Addr) (c:Nat) (hR:IsR3 w b s A c):
  Calls Tryz.prog 56 #[at0 b] w λe w'=>e=.returned (.int .i64 (Zbt s))/\∃ q,w'=w.drewN q:=by
 have c0:=hR.blk.cell 0;have c1:=hR.blk.cell 1;have c2:=hR.blk.cell 2;simp at c0 c1 c2;have hp:=hR.ok.place;have hfit:=hR.fit;clear hR;unfold at0;by_cases he:s.e=0
 ·have d0:(s.e != 0)=false:=by simpa using he
  obtain⟨L,hL⟩:=Ze (Zbt s);have hL2:L=s.bs.length-s.p:=by rw[hL];unfold Zbt;rw[Yaf (by simpa using he)]
  have hLz:IntKind.i64.wrap ((s.bs.length:Int)-(s.p:Int))=(L:Int):=by rw[Ybo _ (by omega)];omega
  rw[<- hL];clear hL hL2 he;go_enter Tryz.func56,Tryz.ntmps56;go_wp2;go_quiet (fail);go_wp2;go_ret;exact⟨rfl,_,rfl⟩
 ·have d0:(s.e != 0)=true:=by simpa using he
  have hres:Zbt s=0:=by unfold Zbt;rw[Yag he]
  rw[hres];clear hres he;go_enter Tryz.func56,Tryz.ntmps56;go_wp2;go_ret;exact⟨rfl,0,rfl⟩
theorem Zle (s:Rd) (most:Int) (h1:-9223372036854775808<=most) (h2:most<=9223372036854775807):-9223372036854775808<=(rInt s most).1/\(rInt s most).1<=9223372036854775807:=by
 unfold rInt;split
 ·simp
 ·split
  ·simp
  ·split
   ·simp
   ·simp only
    omega
def BytesOut (w:World) (b:Nat) (A:Option Addr) (c:Nat) (r:List UInt8×Rd) (e:Ending) (w':World):Prop:=
 ∃ v,e=.returned v/\w'.ownsRow w.heap.size 5 1 v r.1.length (r.1.map byteV)/\IsR3 w' b r.2 A c/\Kept (λi=>i=b) w w'
theorem Zzc {w:World} {b:Nat} {s:Rd} {A:Option Addr} {c:Nat} (h:IsR3 w b s A c) (p c' n:Nat) (hn:p+n<=s.bs.length):∀ ad,Zak A p c'=some ad->0<n->¬ (λi=>i=b) ad.block:=by
 intro ad e h0;unfold Zak at e;split at e
 ·exact h.apart ad e (by omega)
 ·cases A with
  | none=>cases e
  | some a=>
   simp only[Option.map_some,Option.some.injEq]at e;subst e;have hb:(a.add p).block=a.block:=by unfold Addr.add;split<;>rfl
   show ¬ (a.add p).block=b;rw[hb];exact h.apart a rfl (by omega)
theorem Zui {w W W2:World} {b:Nat} {o:Obj} (h:Kept (λi=>i=b) w W) (hg:(W.drew.alloc o).grownBy W2 (some W.heap.size)):Kept (λi=>i=b) w W2:=
 ((h.drew).alloc o).grown hg (λk e=>by cases e;exact .inr h.size)
theorem IsR3.fresh {w W2:World} {b:Nat} {s:Rd} {A:Option Addr} {c:Nat} (h:IsR3 w b s A c) (hk:Kept (λi=>i=b) w W2) (hb:W2.heap[b]?=w.heap[b]?):IsR3 W2 b s A c:=
 ⟨hb.trans h.blk,h.bytes.keep hk h.apart,h.cap,h.apart,h.ok,h.fit⟩
theorem Zho (w:World) (b:Nat) (s:Rd) (A:Option Addr) (c:Nat) (hR:IsR3 w b s A c) (n:Int) (hm1:-9223372036854775808<=n) (hm2:n<=9223372036854775807):
  Calls Tryz.prog 58 #[at0 b,.int .i64 n] w (BytesOut w b A c (Zbd s n)):=by
 have HR:=Zh hR;have c0:=hR.blk.cell 0;have c1:=hR.blk.cell 1;have c2:=hR.blk.cell 2;have z1:=hR.blk.frozen 1;have z2:=hR.blk.frozen 2;have hbl:=hR.blk.lt;simp at c0 c1 c2;have hp:=hR.ok.place;have hfit:=hR.fit;clear hR;unfold at0;obtain⟨r,hr⟩:=Ze (Zbd s n);rw[<- hr];unfold Zbd at hr;by_cases he:s.e=0
 ·have d0:(s.e != 0)=false:=by simpa using he
  by_cases hn:n<=0
  ·have d1:decide (n<=0)=true:=by simpa using hn
   rw[Yag (.inr hn)]at hr;have HS:=Zh hr;clear hr he;go_enter Tryz.func58,Tryz.ntmps58;go_wp2;go_ret;rw[HS.out];exact⟨_,rfl,⟨rfl,.inl ⟨rfl,rfl⟩⟩,HR.out,Kept.refl _ _⟩
  have d1:decide (n<=0)=false:=by simpa using hn
  rw[Yaf (by rintro(h|h)<;>contradiction)]at hr;have hsb:IntKind.i64.wrap ((s.bs.length:Int)-(s.p:Int))=(s.bs.length:Int)-(s.p:Int):=Ybo _ (by omega);by_cases hlt:(s.bs.length:Int)-s.p<n
  ·have d2:decide ((s.bs.length:Int)-(s.p:Int)<n)=true:=by simpa using hlt
   rw[Yag hlt]at hr;have HS:=Zh hr;clear hr he;go_enter Tryz.func58,Tryz.ntmps58;go_wp2;go_quiet (fail);go_wp2;go_ret;rw[HS.out];exact⟨_,rfl,⟨rfl,.inl ⟨rfl,rfl⟩⟩,(HR.out.drewN _).put (s':={ s with e:=31 }) rfl ⟨HR.out.ok.place⟩ rfl,Zib _ _ _ _ _⟩
  ·have d2:decide ((s.bs.length:Int)-(s.p:Int)<n)=false:=by simpa using hlt
   rw[Yaf hlt]at hr;obtain⟨N,rfl⟩:∃ N:Nat,n=N:=⟨n.toNat,by omega⟩
   rw[Yb3]at hr;obtain⟨P,hP⟩:=Ze (s.p+N);have hPz:IntKind.i64.wrap ((s.p:Int)+(N:Int))=(P:Int):=by rw[Ybo _ (by omega)];omega
   have hPl:P<=s.bs.length:=by omega
   have s3:∀ w,(Instr.slice 24 (.slice A s.bs.length c) (some (.int .i64 s.p)) (some (.int .i64 P)) none).run Tryz.prog w=.ok (.slice (Zak A s.p c) N (c-s.p)) w:=λw=>by
    have h:=Zgu w A s.bs.length c s.p P (by omega) (Ybu hPl HR.out.cap);rw[h,show P-s.p=N by omega]
   have hsub:=HR.out.bytes.sub HR.out.cap s.p P (by omega) hPl;rw[hP,Zgk,Ybr]at hsub;have HSUB:=Zh hsub;rw[<- hP]at hr;have hok:Rd.Ok { s with p:=P }:=⟨by simp only;omega⟩
   have HS:=Zh hr;have HOK:=Zh hok;have hNl:N<=1099511627776:=by omega
   have HLN:Hid (((s.bs.drop s.p).take N).length=N):=Zh (by simp;omega);obtain⟨i0,hi,hz0,hz1,hz2⟩:=info_parts Za9;clear hr he hsub hP hok;go_enter Tryz.func58,Tryz.ntmps58;go_wp2;go_quiet (fail);go_wp2_with fail;refine Qe3 ?_;intro W hW;have k0:W.cell? ⟨b,0,none⟩=some (.slice A s.bs.length c):=by rw[hW];exact c0
   have k1:W.cell? ⟨b,1,none⟩=some (.int .i64 s.p):=by rw[hW];exact c1
   have kk:Kept (λi=>i=b) w W:=by rw[hW];exact(Kept.refl _ w).drewN _
   have KK:=Zh kk;have hWl:b<W.heap.size:=Ya7 hbl kk.size;have m0:(W.alloc (.cells #[] 5)).cell? ⟨b,0,none⟩=some (.slice A s.bs.length c):=(Yb4 (Ybn _ _ _ hWl)).trans k0;have m1:(W.alloc (.cells #[] 5)).cell? ⟨b,1,none⟩=some (.int .i64 s.p):=(Yb4 (Ybn _ _ _ hWl)).trans k1;have hsz:w.heap.size<=W.heap.size:=kk.size;have hown:=Ybx (base:=w.heap.size) (e:=5) (size:=1) W.drew #[] 0 hsz (Ybd _) rfl;have hin:BytesIn (W.drew.alloc (.cells #[] 5)) (Zak A s.p c) N ((s.bs.drop s.p).take N):=BytesIn.below (w:=W.drew) (HSUB.out.keep kk (Zzc HR.out s.p c N (by omega))).drew ((Ybm _ _).alloc (Yar _) _);have HIN:=Zh hin;have hbs:W.heap[b]?=w.heap[b]?:=by rw[hW];rfl
   have BSAME:Hid (∀ w3,(W.drew.alloc (.cells #[] 5)).grownBy w3 (some W.heap.size)->w3.heap[b]?=w.heap[b]?):=Zh λw3 hg=>(hg.block b (by simp;omega) (by simp;omega)).trans ((Ybn W.drew _ b hWl).trans hbs);have HOWN:=Zh hown;clear hW hown hin hbs c0 c1 c2 z1 z2 kk;go_cut [5] (λv wx=>∃ A3 cp3,v=.slice A3 N cp3/\wx.ownsRow w.heap.size 5 1 (.slice A3 N cp3) N (((s.bs.drop s.p).take N).map byteV)/\Kept (λi=>i=b) w wx/\IsR3 wx b s A c);case first=>
    go_region_law (refine Za1 _ rfl (.tmp 30) (.tmp 45) 24 rfl w.heap.size 5 i0 (.int .u8 0) 1 Tryz.underlying24 hi hz0 hz1 hz2 rfl (.slice (some ⟨W.heap.size,0,none⟩) 0 0) 0 [] rfl HOWN.out (Zak A s.p c) N _ _ rfl HIN.out.2.1 (Zbm _) (by unfold maxLen;omega) (by omega) (by simp;omega) ?_;intro v' w3 hown' hg2 hloc;obtain⟨A3,cp3,hv3⟩:=Zac hown';rw[hv3]at hown' ⊢;have HG2:=Zh hg2;have HO2:=Zh hown';clear hg2 hown' hloc hv3);all_goals
     clear k0 k1 m0 m1 s3 hPz d0 d1 d2 hsb hi hz0 hz1 hz2 hm1 hm2 hp hfit hPl hNl hWl hsz;go_wp2_with fail;go_meet;have hk3:=Zui KK.out HG2.out;have ho3:=HO2.out;rw[Ya4,Yad]at ho3;exact⟨A3,cp3,rfl,ho3,hk3,HR.out.fresh hk3 (BSAME.out _ HG2.out)⟩
   case rest=>
    obtain⟨A3,cp3,rfl,ho,hk,hi3⟩:=hcut;have c1:=hi3.blk.cell 1;have z1:=hi3.blk.frozen 1;simp at c1;have HO3:=Zh ho;have HK3:=Zh hk;have HI3:=Zh hi3;clear ho hk hi3;go_wp2;go_ret;rw[HS.out];refine⟨_,rfl,?_,HI3.out.put (s':={ s with p:=P }) rfl HOK.out rfl,HK3.out.setCell (.inl rfl) _⟩;rw[HLN.out];exact Zab HO3.out λg hg=>Zad _ _ _ λe=>by
     have:=(HO3.out.lt g hg).1
     simp at e;omega
 ·have d0:(s.e != 0)=true:=by simpa using he
  rw[Yag (.inl he)]at hr;have HS:=Zh hr;clear hr he;go_enter Tryz.func58,Tryz.ntmps58;go_wp2;go_ret;rw[HS.out];exact⟨_,rfl,⟨rfl,.inl ⟨rfl,rfl⟩⟩,HR.out,Kept.refl _ _⟩
theorem BytesOut.later {w w1 w':World} {b:Nat} {A:Option Addr} {c:Nat} {r:List UInt8×Rd} {e:Ending} (h:BytesOut w1 b A c r e w') (hk:Kept (λi=>i=b) w w1):BytesOut w b A c r e w':=by
 obtain⟨v,h1,h2,h3,h4⟩:=h;exact⟨v,h1,Go.Joins.ownsRow_le h2 hk.size,h3,hk.trans h4 λ_ _ e=>e⟩
theorem Zvh (w:World) (b:Nat) (s:Rd) (A:Option Addr) (c:Nat) (hR:IsR3 w b s A c) (most:Int) (hm1:-9223372036854775808<=most) (hm2:most<=9223372036854775807):
  Calls Tryz.prog 57 #[at0 b,.int .i64 most] w (BytesOut w b A c (Zek s most)):=by
 have HR:=Zh hR;clear hR;have hb1:=Zle s most hm1 hm2;obtain⟨r,hr⟩:=Ze (Zek s most);rw[<- hr];unfold Zek at hr;have HRR:=Zh hr;clear hr;unfold at0;go_enter Tryz.func57,Tryz.ntmps57;go_wp2_with fail;refine(Zin w b s A c HR.out most hm1 hm2).mono ?_;rintro e w1 ⟨rfl,hI,hk⟩;have HI:=Zh hI;have HK:=Zh hk;clear hI hk;go_wp2_with fail;refine(Zho w1 b _ A c HI.out _ hb1.1 hb1.2).mono ?_;rintro e w2 ⟨v,rfl,h2,h3,h4⟩;have H2:=Zh h2;have H3:=Zh h3;have H4:=Zh h4;clear h2 h3 h4;go_wp2;go_ret;rw[HRR.out];exact BytesOut.later ⟨v,rfl,H2.out,H3.out,H4.out⟩ HK.out
theorem Qcq {w:World} {base:Nat} {e:TypeId} {A:Option Addr} {n c:Nat} {xs:List Value} (h:w.ownsRow base e 1 (.slice A n c) n xs):n<=c:=by
 obtain⟨A',c',h1,h2⟩:=Za0 h;injection h1 with _ _ h3;omega
theorem Zkf (w:World) (A:Option Addr) (n c:Nat) (l:Nm) (hl:BytesIn w A n l) (hn:n<=1099511627776):
  Calls Tryz.prog 54 #[.slice A n c] w λe w'=>∃ b A' c',e=.returned (at0 b)/\w.heap.size<=b/\IsR3 w' b ⟨l,0,0⟩ A' c'/\Below w.heap.size w w'/\(∀ ad,A'=some ad->0<n->w.heap.size<=ad.block):=by
 have HL:=Zh (BytesIn.below hl ((Ybm _ w).alloc (Yar _) (.cells #[] 5)));have hln:l.length=n:=by have:=hl.2.1.len;simpa using this
 have HLN:=Zh hln;clear hl hln;obtain⟨i0,hi,hz0,hz1,hz2⟩:=info_parts Za9;go_enter Tryz.func54,Tryz.ntmps54;go_wp2_with (at_builtin;refine Zae _ rfl (.tmp 3) (.tmp 4) 24 rfl w.heap.size 5 i0 (.int .u8 0) 1 Tryz.underlying24 hi hz0 hz1 hz2 rfl _ 0 [] rfl (Ybx w #[] 0 (Yar _) (Ybd _) rfl) A n c (l.map byteV) rfl HL.out.2.1 (Zbm l) (by unfold maxLen;omega) (by omega) (by simp) ?_;intro v w2 hown hgrow hloc;obtain⟨A2,c2,hv⟩:=Zac hown;subst hv;rw[Ya4,Yad]at hown;have HO:=Zh hown;have HB:Hid (Below w.heap.size w w2):=Zh ((((Ybm _ w).alloc (Yar _) (.cells #[] 5)).grown hgrow (by simp) (λk e=>by cases e;exact Yar _)));clear hown hgrow hloc);go_ret;have hs:=HB.out.size;have h2:BytesIn w2 A2 n l:=BytesIn.own HO.out (by unfold maxLen;omega);have h3:=h2.below ((Ybm _ w2).alloc (Yar _) (.cells #[.slice A2 n c2,.int .i64 0,.int .i64 0] 117));refine⟨w2.heap.size,A2,c2,rfl,hs,⟨?_,?_,?_,?_,⟨Ybd _⟩,?_⟩,HB.out.alloc hs _,λad e h0=>?_⟩
 ·rw[HLN.out]
  exact Blk.new w2 _ _
 ·rw[HLN.out];exact h3
 ·rw[HLN.out];exact Qcq HO.out
 ·rw[HLN.out]
  intro ad e h0;have:=h2.2.2 ad e h0
  omega
 ·show l.length<=_
  rw[HLN.out];exact hn
 ·exact(HO.out.lt ad.block (by rw[e];rfl)).1
end Go.Proofs.YthcjikpabpgpfaaGreat
