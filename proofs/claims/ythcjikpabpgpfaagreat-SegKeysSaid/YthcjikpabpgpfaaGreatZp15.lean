import Derived.Test.YthcjikpabpgpfaaGreatZp0
import Derived.Test.YthcjikpabpgpfaaGreatZp7
import Derived.Test.YthcjikpabpgpfaaGreatZp9
import Derived.DeepKeys4
import Derived.MapViews
import Derived.Maps.OwnSet
import Derived.Deep.RegionHeld3
import Derived.Deep.RegionLaw
import Derived.Test.YthcjikpabpgpfaaGreatZp12
import Derived.Test.YthcjikpabpgpfaaGreatZp11
import Derived.Test.YthcjikpabpgpfaaGreatZp10
import Derived.Deep.DeepCutAuto
import Derived.Test.YthcjikpabpgpfaaGreatZp8
set_option linter.unusedSimpArgs false
set_option maxHeartbeats 16000000
set_option maxRecDepth 100000
namespace Go.Proofs.YthcjikpabpgpfaaGreat
open Go.RowKit Go.Maps Go.WideMaps
theorem strLaw:Keyed Tryz.prog 9:=string_keyed Tryz.underlying9
theorem rowPair:(73:TypeId) < Tryz.prog.types.size:=of_decide_eq_true (by kernel_rfl)
theorem widePair:(match Tryz.prog.underlying 73 with | some (.array _ _) | some (.struct _)=>true | _=>false)=true:=by kernel_rfl
theorem pairKeyLaw:KeyLaw Tryz.prog 73:=deep_law_laid laidOut (m:=3) (by omega) rowPair (by kernel_rfl) widePair
theorem pairLaw:Keyed Tryz.prog 73:=Keyed.of_law pairKeyLaw
def pk (a b:Int):Lit:=.string (keyBytes [.int .i64 a,.int .i64 b])
theorem keyOf_pairs {a b:Int} (ha:fits64 a) (hb:fits64 b):keyOf Tryz.prog 73 (.agg #[.int .i64 a,.int .i64 b])=some (pk a b):=by
 have wa:(Lit.int .i64 a).wf=true:=WalkArith.wf_i64 ha
 have wb:(Lit.int .i64 b).wf=true:=WalkArith.wf_i64 hb
 have hu:=Tryz.underlying73
 have hk:Tryz.prog.keyType 73=true:=by kernel_rfl
 have hc:Tryz.prog.cellsOf 73=2:=by kernel_rfl
 have hi:Tryz.prog.cellsOf 3=1:=by kernel_rfl
 have hsz:∃ m,Tryz.prog.types.size=m+1:=⟨_,(Nat.sub_add_cancel (Nat.lt_of_le_of_lt (Nat.zero_le _) rowPair)).symm⟩
 obtain ⟨m,hm⟩:=hsz
 unfold keyOf
 simp only [hu]
 rw [if_pos (by simp [hk,Value.formed,hu,hc]),hm]
 unfold Program.keyLits
 simp only [hu,Value.cells]
 rw [if_pos ⟨by rw [hc];rfl,by simp⟩]
 simp [hi,Program.keyLits,Tryz.underlying3,wa,wb,pk]
theorem pk_inj {a b a' b':Int} (ha:fits64 a) (hb:fits64 b) (ha':fits64 a') (hb':fits64 b') (h:pk a b=pk a' b'):a=a'∧b=b':=by
 have e:=pairKeyLaw.inj (keyOf_pairs ha hb) (by rw [h];exact keyOf_pairs ha' hb')
 simpa using e
theorem unitZero (w:World):(zeroValue 150).run Tryz.prog w=.ok (.agg #[]) w:=by kernel_rfl
theorem intZero (w:World):(zeroValue 3).run Tryz.prog w=.ok (.int .i64 0) w:=by kernel_rfl
def atTok (L:List Nm) (s:Nm):Int:=if 0≤findT L s then findT L s else 0
structure TokMap (D:DataW Unit) (L:List Nm):Prop where
 isMap:IsMap D
 has:∀ s:Nm,Maps.has D (.string s)=decide (0≤findT L s)
 at_:∀ s:Nm,D.atKey (.string s) (.lit (.int .i64 0))=.lit (.int .i64 (atTok L s))
structure PairMap (D:DataW Unit) (M:List Mg):Prop where
 isMap:IsMap D
 has:∀ a b,fits64 a→fits64 b→Maps.has D (pk a b)=mergedB M a b
theorem TokMap.nil:TokMap (.map []) []:=⟨isMap_empty,fun _=>rfl,fun _=>rfl⟩
theorem PairMap.nil:PairMap (.map []) []:=⟨isMap_empty,fun _ _ _ _=>rfl⟩
theorem findT_snoc {L:List Nm} {x:Nm} (h:findT L x < 0) (s:Nm):findT (L++[x]) s=if s=x then (L.length:Int) else findT L s:=by
 split
 ·rename_i e
  subst e
  rcases findT_cases L s with ⟨_,hn⟩ | ⟨i,hi,_⟩
  ·exact findT_at (by simp) fun j y hj hy=>by
    rw [List.getElem?_append_left hj] at hy
    exact hn y (List.mem_of_getElem? hy)
  ·omega
 ·rename_i e
  rcases findT_cases L s with ⟨h1,hn⟩ | ⟨i,hi,hx,hn⟩
  ·rw [h1]
   exact findT_none fun y hy=>by
    rcases List.mem_append.1 hy with hy | hy
    ·exact hn y hy
    ·rw [List.mem_singleton.1 hy];exact fun e2=>e e2.symm
  ·have hlt:=(List.getElem?_eq_some_iff.1 hx).1
   rw [hi]
   exact findT_at (by rw [List.getElem?_append_left hlt];exact hx) fun j y hj hy=>by
    rw [List.getElem?_append_left (by omega)] at hy
    exact hn j y hj hy
theorem isKeyStr (s:Nm):WideAt.IsKeyLit (.string s):=trivial
theorem TokMap.put {D:DataW Unit} {L:List Nm} (h:TokMap D L) {x:Nm} (hx:findT L x < 0):TokMap (D.put (.string x) (.lit (.int .i64 (L.length:Nat)))) (L++[x]):=by
 refine ⟨h.isMap.put _ _,fun s=>?_,fun s=>?_⟩
 ·rw [findT_snoc hx]
  by_cases e:s=x
  ·subst e
   rw [has_put_same h.isMap (isKeyStr s),if_pos rfl,decide_eq_true (by omega)]
  ·rw [has_put_other (fun e2=>e (by injection e2)),if_neg e,h.has]
 ·unfold atTok
  rw [findT_snoc hx]
  by_cases e:s=x
  ·subst e
   rw [atKey_put_same h.isMap (isKeyStr s),if_pos rfl,if_pos (by omega)]
  ·rw [atKey_put_other (fun e2=>e (by injection e2)),if_neg e,h.at_]
   rfl
theorem mergedB_snoc (M:List Mg) (m:Mg) (a b:Int):mergedB (M++[m]) a b=(mergedB M a b||((m.a==a)&&(m.b==b))):=by
 unfold mergedB
 simp [List.any_append]
theorem PairMap.put {D:DataW Unit} {M:List Mg} (h:PairMap D M) {m:Mg} (ha:fits64 m.a) (hb:fits64 m.b) (d:DataW Unit):PairMap (D.put (pk m.a m.b) d) (M++[m]):=by
 refine ⟨h.isMap.put _ _,fun a b fa fb=>?_⟩
 rw [mergedB_snoc]
 by_cases e:pk a b=pk m.a m.b
 ·obtain ⟨rfl,rfl⟩:=pk_inj fa fb ha hb e
  rw [has_put_same h.isMap (show WideAt.IsKeyLit (pk m.a m.b) from trivial)]
  simp
 ·rw [has_put_other e,h.has a b fa fb]
  have:((m.a==a)&&(m.b==b))=false:=by
   rw [Bool.eq_false_iff]
   intro e2
   simp at e2
   exact e (by rw [← e2.1,← e2.2])
  rw [this,Bool.or_false]
abbrev tokAt (w:World) (b n:Nat) (D:DataW Unit):Prop:=w.ownsMap Tryz.prog 9 (plainElem Tryz.prog 3) b n D
abbrev pairAt (w:World) (b n:Nat) (D:DataW Unit):Prop:=w.ownsMap Tryz.prog 73 unitElem b n D
theorem tok_look {w:World} {b n:Nat} {D:DataW Unit} {L:List Nm} (h:tokAt w b n D) (hT:TokMap D L) (s:Nm) (hs:s.length≤maxLen):
  (Instr.lookup 218 (.map (some b)) (.string ⟨s.toArray⟩) true).run Tryz.prog w=.ok (.tuple #[.int .i64 (atTok L s),.bool (decide (0≤findT L s))]) w:=by
 have hkey:keyOf Tryz.prog 9 (.string ⟨s.toArray⟩)=some (.string s):=by
  have:=keyOf_string_mk Tryz.underlying9 (s:=⟨s.toArray⟩) (by simpa [ByteArray.size] using hs)
  simpa using this
 obtain ⟨v,ps,hrun,hv⟩:=h.look_ok strLaw Tryz.underlying218 (intZero _) (plainElem_int Tryz.underlying3 (by decide)) hkey
 obtain ⟨c,rfl,hc,_⟩:=plainElem_int_inv Tryz.underlying3 hv
 rw [hT.has] at hrun
 rw [hT.at_] at hc
 simp only [Prod.mk.injEq,DataW.lit.injEq,Lit.int.injEq,true_and] at hc
 rw [hrun,hc.1]
theorem pair_look {w:World} {b n:Nat} {D:DataW Unit} {M:List Mg} (h:pairAt w b n D) (hP:PairMap D M) {x y:Int} (hx:fits64 x) (hy:fits64 y):
  (Instr.lookup 219 (.map (some b)) (.agg #[.int .i64 x,.int .i64 y]) true).run Tryz.prog w=.ok (.tuple #[.agg #[],.bool (mergedB M x y)]) w:=by
 obtain ⟨v,ps,hrun,hv⟩:=h.look_ok pairLaw Tryz.underlying219 (unitZero _) unitElem_mk (keyOf_pairs hx hy)
 obtain ⟨rfl,_⟩:=unitElem_inv hv
 rw [hP.has x y hx hy] at hrun
 exact hrun
def Own (F:Nat→Prop) (w w':World) (i:Nat):Prop:=F i∨(w.heap.size≤i∧i < w'.heap.size)
def mgCells (m:Mg):List Value:=[.int .i64 m.a,.int .i64 m.b,.int .i64 m.t]
def mgFits (m:Mg):Prop:=fits64 m.a∧fits64 m.b∧fits64 m.t
def TokIn (w:World) (F:Nat→Prop) (sv:Value) (x:Nm):Prop:=∃ A c,sv=.slice A x.length c∧x.length≤c∧BytesIn w A x.length x∧∀ ad,A=some ad→0 < x.length→¬ F ad.block
structure IsGrow (w:World) (F:Nat→Prop) (b:Nat) (V:Voc) (tv mv:Value) (bt bp:Nat) (svs:List Value) (DT DP:DataW Unit):Prop where
 blk:Blk w b 221 #[tv,mv,.map (some bt),.map (some bp)]
 trow:w.ownsRow 0 24 1 tv V.tok.length svs
 toks:∀ (i:Nat) (sv:Value) (x:Nm),svs[i]?=some sv→V.tok[i]?=some x→TokIn w F sv x
 mrow:w.ownsRow 0 88 3 mv V.mer.length (V.mer.flatMap mgCells)
 fits:∀ m∈V.mer,mgFits m
 tmap:tokAt w bt V.tok.length DT
 pmap:pairAt w bp V.mer.length DP
 isT:TokMap DT V.tok
 isP:PairMap DP V.mer
 nob:bt≠bp
 fb:F b
 ft:F bt
 fp:F bp
 fv:∀ g,tv.ownBlock=some g→F g
 fm:∀ g,mv.ownBlock=some g→F g
 lt:∀ i,F i→i < w.heap.size
def Grow (w:World) (F:Nat→Prop) (b:Nat) (V:Voc):Prop:=∃ tv mv bt bp svs DT DP,IsGrow w F b V tv mv bt bp svs DT DP
theorem TokIn.mono {w w':World} {F F':Nat→Prop} {sv:Value} {x:Nm} (h:TokIn w F sv x) {G:Nat→Prop} (hk:Kept G w w') (hG:∀ i,G i→F i) (hF:∀ i,F' i→F i∨w.heap.size≤i):TokIn w' F' sv x:=by
 obtain ⟨A,c,h1,h2,h3,h4⟩:=h
 refine ⟨A,c,h1,h2,⟨h3.1,h3.2.1.keep fun ad e h0=>hk.block _ (h3.2.2 ad e h0) fun hf=>h4 ad e h0 (hG _ hf),fun ad e h0=>Nat.lt_of_lt_of_le (h3.2.2 ad e h0) hk.size⟩,fun ad e h0 hf=>?_⟩
 rcases hF _ hf with h | h
 ·exact h4 ad e h0 h
 ·have:=h3.2.2 ad e h0;omega
theorem Blk.same {w w':World} {g:Nat} {t:TypeId} {cs:Array Value} (h:Blk w g t cs) (e:w'.heap[g]?=w.heap[g]?):Blk w' g t cs:=e.trans h
theorem IsGrow.kept {w w':World} {F:Nat→Prop} {b:Nat} {V:Voc} {tv mv:Value} {bt bp:Nat} {svs:List Value} {DT DP:DataW Unit} (h:IsGrow w F b V tv mv bt bp svs DT DP) (hb:Below w.heap.size w w'):IsGrow w' F b V tv mv bt bp svs DT DP where
 blk:=h.blk.same (hb.block _ (h.lt _ h.fb))
 trow:=ownsRow_block h.trow fun g hg=>hb.block g (h.lt g (h.fv g hg))
 toks:=fun i sv x h1 h2=>(h.toks i sv x h1 h2).mono (G:=fun _=>False) (Kept.below hb) (fun _=>False.elim) (fun _ hf=>.inl hf)
 mrow:=ownsRow_block h.mrow fun g hg=>hb.block g (h.lt g (h.fm g hg))
 fits:=h.fits
 tmap:=ownsMap_block h.tmap (hb.block _ (h.lt _ h.ft))
 pmap:=ownsMap_block h.pmap (hb.block _ (h.lt _ h.fp))
 isT:=h.isT
 isP:=h.isP
 nob:=h.nob
 fb:=h.fb
 ft:=h.ft
 fp:=h.fp
 fv:=h.fv
 fm:=h.fm
 lt:=fun i hi=>Nat.lt_of_lt_of_le (h.lt i hi) hb.size
theorem Grow.kept {w w':World} {F:Nat→Prop} {b:Nat} {V:Voc} (h:Grow w F b V) (hb:Below w.heap.size w w'):Grow w' F b V:=by
 obtain ⟨tv,mv,bt,bp,svs,DT,DP,h⟩:=h
 exact ⟨tv,mv,bt,bp,svs,DT,DP,h.kept hb⟩
theorem newGrowing_any (w:World):
  Calls Tryz.prog 87 #[] w fun e w'=>∃ b,e=.returned (at0 b)∧Grow w' (fun i=>w.heap.size≤i∧i < w'.heap.size) b ⟨[],[]⟩∧Below w.heap.size w w':=by
 have hmm:=@run_makeMap Tryz.prog
 go_enter Tryz.func87,Tryz.ntmps87
 go_wp2
 go_ret
 have b1:Below w.heap.size w (w.alloc (.map #[] 0)):=(Below.refl _ w).alloc (Nat.le_refl _) _
 have b2:Below w.heap.size w ((w.alloc (.map #[] 0)).alloc (.map #[] 0)):=b1.alloc (by simp) _
 refine ⟨_,rfl,⟨.slice none 0 0,.slice none 0 0,w.heap.size,w.heap.size+1,[],.map [],.map [],?_⟩,b2.alloc (by simp;omega) _⟩
 have m1:tokAt (((w.alloc (.map #[] 0)).alloc (.map #[] 0)).alloc (.cells #[.slice none 0 0,.slice none 0 0,.map (some w.heap.size),.map (some (w.heap.size+1))] 221)) w.heap.size 0 (.map []):=
  ((World.ownsMap_made w _ _ _).alloc _).alloc _
 have m2:pairAt (((w.alloc (.map #[] 0)).alloc (.map #[] 0)).alloc (.cells #[.slice none 0 0,.slice none 0 0,.map (some w.heap.size),.map (some (w.heap.size+1))] 221)) (w.heap.size+1) 0 (.map []):=by
  have h:=(World.ownsMap_made (H:=Unit) (w.alloc (.map #[] 0)) Tryz.prog 73 unitElem)
  simp only [World.size_alloc] at h
  exact h.alloc _
 exact {
  blk:=by
   have h:=Blk.new ((w.alloc (.map #[] 0)).alloc (.map #[] 0)) 221 #[.slice none 0 0,.slice none 0 0,.map (some w.heap.size),.map (some (w.heap.size+1))]
   simpa using h
  trow:=World.ownsRow_nil _ _ _ _
  toks:=fun i sv x h1 _=>by simp at h1
  mrow:=World.ownsRow_nil _ _ _ _
  fits:=fun m h=>by simp at h
  tmap:=m1
  pmap:=m2
  isT:=TokMap.nil
  isP:=PairMap.nil
  nob:=by omega
  fb:=by simp;omega
  ft:=by simp;omega
  fp:=by simp
  fv:=fun g h=>by simp [Value.ownBlock] at h
  fm:=fun g h=>by simp [Value.ownBlock] at h
  lt:=fun i hi=>hi.2 }
theorem isIndex_any (w:World) (F:Nat→Prop) (b:Nat) (V:Voc) (hG:Grow w F b V) (i:Int):
  Calls Tryz.prog 173 #[at0 b,.int .i64 i] w fun e w'=>e=.returned (.bool (decide (0≤i∧i < V.tok.length)))∧w'=w:=by
 obtain ⟨tv,mv,bt,bp,svs,DT,DP,h⟩:=hG
 obtain ⟨A,c,rfl⟩:=own_slice h.trow
 have e0:=h.blk.cell 0
 simp only [lz0,lz1] at e0
 obtain ⟨n,hn⟩:∃ n,n=V.tok.length:=⟨_,rfl⟩
 rw [← hn] at e0 ⊢
 clear h hn
 unfold at0
 by_cases h1:i < 0
 ·rw [decide_eq_false (by omega)]
  go_enter Tryz.func173,Tryz.ntmps173
  go_wp2
  go_ret
  exact ⟨rfl,rfl⟩
 ·have h1':0≤i:=by omega
  by_cases h2:i < (n:Int)
  ·rw [decide_eq_true (by omega)]
   go_enter Tryz.func173,Tryz.ntmps173
   go_wp2
   go_ret
   exact ⟨rfl,rfl⟩
  ·rw [decide_eq_false (by omega)]
   go_enter Tryz.func173,Tryz.ntmps173
   go_wp2
   go_ret
   exact ⟨rfl,rfl⟩
theorem pairCells:(Tryz.prog.info? 73).map (·.size)=some 2:=by kernel_rfl
theorem pairOf_any (w:World) (a b t:Int):
  Calls Tryz.prog 136 #[.agg #[.int .i64 a,.int .i64 b,.int .i64 t]] w fun e w'=>e=.returned (.agg #[.int .i64 a,.int .i64 b])∧Below w.heap.size w w':=by
 go_enter Tryz.func136,Tryz.ntmps136
 go_wp2
 refine bodyPost_ret (results_cell_row rfl _ _ (w.heap.size+1) 73 #[.int .i64 a,.int .i64 b] (0,0) _ rfl ?_ Tryz.underlying73 rfl pairCells) rfl ⟨rfl,?_⟩
 ·have h:=Blk.new (w.alloc (.cells #[.int .i64 a,.int .i64 b,.int .i64 t] 88)) 73 #[.int .i64 a,.int .i64 b]
  simpa [Blk] using h
 ·exact ((Below.refl _ w).alloc (Nat.le_refl _) _).alloc (by simp) _
theorem hasToken_any (w:World) (F:Nat→Prop) (b:Nat) (V:Voc) (hG:Grow w F b V) (A:Option Addr) (n c:Nat) (x:Nm) (hx:BytesIn w A n x):
  Calls Tryz.prog 135 #[at0 b,.slice A n c] w fun e w'=>e=.returned (.bool (decide (0≤findT V.tok x)))∧Below w.heap.size w w':=by
 obtain ⟨tv,mv,bt,bp,svs,DT,DP,h⟩:=hG
 have hxn:x.length≤maxLen:=by have:=hx.2.1.len;have:=hx.1;simp at *;omega
 have e2:∀ q,(w.drewN q).cell? ⟨b,2,none⟩=some (.map (some bt)):=fun q=>by
  have:=(h.blk.drewN q).cell 2
  simpa using this
 have hlk:∀ q,(Instr.lookup 218 (.map (some bt)) (.string ⟨x.toArray⟩) true).run Tryz.prog (w.drewN q)=.ok (.tuple #[.int .i64 (atTok V.tok x),.bool (decide (0≤findT V.tok x))]) (w.drewN q):=fun q=>tok_look (w:=w.drewN q) (ownsMap_block h.tmap rfl) h.isT x hxn
 have hcv:∀ q,(convert 24 9 (.slice A n c)).run Tryz.prog (w.drewN q)=.ok (.string ⟨x.toArray⟩) (w.drewN q):=fun q=>str_of (hx.drewN q) c
 obtain ⟨R,hR⟩:∃ R,R=decide (0≤findT V.tok x):=⟨_,rfl⟩
 rw [← hR]
 rw [← hR] at hlk
 obtain ⟨T,hT⟩:∃ T,T=atTok V.tok x:=⟨_,rfl⟩
 rw [← hT] at hlk
 clear h hx hR hT
 unfold at0
 go_enter Tryz.func135,Tryz.ntmps135
 go_wp2_with fail
 go_quiet (fail)
 go_wp2
 go_ret
 exact ⟨rfl,below_drewN (Below.refl _ _) _⟩
theorem isIndex_is (w:World) (F:Nat→Prop) (b:Nat) (V:Voc) (hG:Grow w F b V) (i:Int) {r:Bool} (hr:decide (0≤i∧i < V.tok.length)=r):
  Calls Tryz.prog 173 #[at0 b,.int .i64 i] w fun e w'=>e=.returned (.bool r)∧w'=w:=by
 have h:=isIndex_any w F b V hG i
 rw [hr] at h
 exact h
theorem isFree_any (w:World) (F:Nat→Prop) (b:Nat) (V:Voc) (hG:Grow w F b V) (x y:Int) (hx:fits64 x) (hy:fits64 y):
  Calls Tryz.prog 137 #[at0 b,.agg #[.int .i64 x,.int .i64 y]] w fun e w'=>e=.returned (.bool (decide (0≤x∧x < V.tok.length)&&(decide (0≤y∧y < V.tok.length)&&!(mergedB V.mer x y))))∧Below w.heap.size w w':=by
 have HG:=Lib.hid hG
 obtain ⟨tv,mv,bt,bp,svs,DT,DP,h⟩:=hG
 have HB:=Lib.hid h.blk
 have HP:=Lib.hid h.pmap
 have HI:=Lib.hid h.isP
 obtain ⟨R,hR⟩:∃ R,R=mergedB V.mer x y:=⟨_,rfl⟩
 rw [← hR]
 have hb1:∀ w',Below w.heap.size w w'→w'.cell? ⟨b,3,none⟩=some (.map (some bp)):=fun w' hb=>by
  have:=(HB.out.below hb HB.out.lt).cell 3
  simpa using this
 have hlk:∀ w',Below w.heap.size w w'→(Instr.lookup 219 (.map (some bp)) (.agg #[.int .i64 x,.int .i64 y]) true).run Tryz.prog w'=.ok (.tuple #[.agg #[],.bool R]) w':=fun w' hb=>by
  rw [hR]
  exact pair_look (ownsMap_block HP.out (hb.block _ HP.out.lt)) HI.out hx hy
 have HL:=Lib.hid hlk
 have HC:=Lib.hid hb1
 have b1:Below w.heap.size w (w.alloc (.cells #[.int .i64 x,.int .i64 y] 73)):=(Below.refl _ w).alloc (Nat.le_refl _) _
 have b2:Below w.heap.size w ((w.alloc (.cells #[.int .i64 x,.int .i64 y] 73)).alloc (.cells #[] 150)):=b1.alloc (by simp) _
 have B1:=Lib.hid b1
 have B2:=Lib.hid b2
 clear h hR hb1 hlk b1 b2
 have c1:=HC.out _ B1.out
 have c2:=HC.out _ B2.out
 have l1:=HL.out _ B1.out.drew
 have l2:=HL.out _ B2.out.drew
 unfold at0
 go_enter Tryz.func137,Tryz.ntmps137
 go_wp2
 go_region
 all_goals
  have GW:=Lib.hid (HG.out.kept B2.out.drew)
  have BF:=Lib.hid B2.out.drew
  clear HL HC B1 B2 HP HI HB HG c1 c2 l1 l2
  cases q1:decide (0≤x∧x < V.tok.length) with
  | false=>
   have Q1:=Lib.hid q1
   clear q1
   go_wp2_with fail
   refine (isIndex_is _ F b V GW.out x Q1.out).mono ?_
   rintro e w2 ⟨rfl,rfl⟩
   go_wp2
   go_ret
   exact ⟨by rw [Q1.out];rfl,BF.out⟩
  | true=>
   have Q1:=Lib.hid q1
   clear q1
   go_wp2_with fail
   refine (isIndex_is _ F b V GW.out x Q1.out).mono ?_
   rintro e w2 ⟨rfl,rfl⟩
   cases q2:decide (0≤y∧y < V.tok.length) with
   | false=>
    have Q2:=Lib.hid q2
    clear q2
    go_wp2_with fail
    refine (isIndex_is _ F b V GW.out y Q2.out).mono ?_
    rintro e w2 ⟨rfl,rfl⟩
    go_wp2
    go_ret
    exact ⟨by rw [Q1.out,Q2.out];rfl,BF.out⟩
   | true=>
    have Q2:=Lib.hid q2
    clear q2
    go_wp2_with fail
    refine (isIndex_is _ F b V GW.out y Q2.out).mono ?_
    rintro e w2 ⟨rfl,rfl⟩
    go_wp2
    go_ret
    exact ⟨by rw [Q1.out,Q2.out];simp,BF.out⟩
def vocV (A B:Option Addr) (n m ca cb:Nat):Value:=.agg #[.slice A n ca,.slice B m cb]
structure VocSee (w:World) (A B:Option Addr) (n m ca cb:Nat) (V:Voc):Prop where
 tok:RowsSee w A n V.tok
 mer:MgSee w B m V.mer
 capT:n≤ca
 capM:m≤cb
theorem VocSee.below {w w':World} {A B:Option Addr} {n m ca cb:Nat} {V:Voc} (h:VocSee w A B n m ca cb V) (hb:Below w.heap.size w w'):VocSee w' A B n m ca cb V:=⟨h.tok.below hb,h.mer.below hb,h.capT,h.capM⟩
theorem all_range_false {f:Nat→Bool} {n k:Nat} (hk:k < n) (h:f k=false):(List.range n).all f=false:=by
 rw [List.all_eq_false]
 exact ⟨k,List.mem_range.2 hk,by simp [h]⟩
theorem all_range_true {f:Nat→Bool} {n:Nat} (h:∀ k,k < n→f k=true):(List.range n).all f=true:=by
 rw [List.all_eq_true]
 intro k hk
 exact h k (List.mem_range.1 hk)
def AddOut (M:World→(Nat→Prop)→Nat→List MDoc→Prop) (w:World) (F:Nat→Prop) (b:Nat) (L:List MDoc) (x:MDoc) (e:Ending) (w':World):Prop:=e=.returned (.int .i64 (mErr L x))∧∃ F',M w' F' b (mAdd L x)∧Kept F w w'∧∀ i,F' i→F i∨w.heap.size≤i
theorem rInt_bounds (s:Rd) (most:Int) (h1:-9223372036854775808≤most) (h2:most≤9223372036854775807):-9223372036854775808≤(rInt s most).1∧(rInt s most).1≤9223372036854775807:=by
 unfold rInt
 split
 ·simp
 ·split
  ·simp
  ·split
   ·simp
   ·simp only
    omega
theorem own_le {w:World} {base:Nat} {e:TypeId} {A:Option Addr} {n c:Nat} {xs:List Value} (h:w.ownsRow base e 1 (.slice A n c) n xs):n≤c:=by
 obtain ⟨A',c',h1,h2⟩:=own_cap h
 injection h1 with _ _ h3
 omega
theorem append_srcNP {P:Program} (w:World) (base:Nat) (t ty e:TypeId) (i:TypeInfo) (z:Value) (size bytes:Nat) (ht:P.underlying t=some (.slice e)) (hi:P.info? e=some i) (hz:i.zero=some z)
  (hsize:i.size=size) (hby:i.bytes=bytes) (hzs:z.cells.size=size) (hsz:0 < size) (v:Value) (n:Nat) (xs:List Value) (hown:w.ownsRow base e size v n xs)
  (A:Option Addr) (m c:Nat) (news:List Value) (hl:news.length=m * size) (hc:∀ ad,A=some ad→∀ j u,news[j]?=some u→w.cell? (ad.add j)=some u) (hn:A=none→m=0) (h1:∀ u∈news,u.oneCell'=true)
  (h63:n+m≤maxLen) (hbytes:(n+m) * bytes≤140737488355328) (hbase:base≤w.heap.size):
  ∃ v' w',(Builtin.append_ #[t,t] ty #[v,.slice A m c]).run P w=.ok v' w'∧w'.ownsRow base e size v' (n+m) (xs++news)∧w.grownBy w' v.ownBlock∧
   (v'.ownBlock=v.ownBlock∨v'.ownBlock=some w.heap.size):=by
 cases A with
 | none=>
  have hm:=hn rfl
  subst hm
  have hn:news=[]:=List.eq_nil_of_length_eq_zero (by rw [hl,Nat.zero_mul])
  subst hn
  refine ⟨v,w,?_,by simpa using hown,World.grownBy.refl w _,.inl rfl⟩
  rcases hown.2 with ⟨rfl,rfl⟩ | ⟨g,cap,cur,rfl,_,_,hnc,_⟩
  ·simp [Builtin.append_,run_underlying ht,sizeOf,typeInfo,hi,Builtin.lenOf,Builtin.firstCells]
  ·simp [Builtin.append_,run_underlying ht,sizeOf,typeInfo,hi,Builtin.lenOf,Builtin.firstCells,hnc,storeCells]
 | some ad=>
  obtain ⟨v',w',hrun,h2,h3,_,h5⟩:=run_append_own_at (P:=P) w base t ty e i z size bytes ht hi hz hsize hby hzs hsz v n xs hown ad m c news hl (hc ad rfl) h1 h63 hbytes hbase
  exact ⟨v',w',hrun,h2,h3,h5⟩
theorem wpList_append_srcN {P:Program} (w:World) {ops:Array Oper} {rest:List Oper} {o:Oper} {a:Act} {Q:Exit→Act→World→Prop} (hgd:o.guard=none) (s x:Operand) (t:TypeId)
  (ho:o.op=.call { callee:=.builtin .append,args:=#[s,x],argTypes:=#[t,t] })
  (base:Nat) (e:TypeId) (i:TypeInfo) (z:Value) (size bytes:Nat) (ht:P.underlying t=some (.slice e)) (hi:P.info? e=some i) (hz:i.zero=some z)
  (hsize:i.size=size) (hby:i.bytes=bytes) (hzs:z.cells.size=size) (hsz:0 < size)
  (v:Value) (n:Nat) (xs:List Value) (hs:a.eval s=v) (hown:w.ownsRow base e size v n xs)
  (A:Option Addr) (m c:Nat) (news:List Value) (hx:a.eval x=.slice A m c) (hl:news.length=m * size) (hc:∀ ad,A=some ad→∀ j u,news[j]?=some u→w.cell? (ad.add j)=some u) (hn:A=none→m=0) (h1:∀ u∈news,u.oneCell'=true)
  (h63:n+m≤maxLen) (hbytes:(n+m) * bytes≤140737488355328) (hbase:base≤w.heap.size)
  (h:∀ v' w',w'.ownsRow base e size v' (n+m) (xs++news)→w.grownBy w' v.ownBlock→(v'.ownBlock=v.ownBlock∨v'.ownBlock=some w.heap.size)→wpList P ops Q rest (a.put o.dst v') w'):wpList P ops Q (o :: rest) a w:=by
 refine wpList_plain hgd fun K hK=>?_
 obtain ⟨v',w',hrun,h2,h3,h4⟩:=append_srcNP (P:=P) w base t o.type e i z size bytes ht hi hz hsize hby hzs hsz v n xs hown A m c news hl hc hn h1 h63 hbytes hbase
 unfold Oper.wp execOp
 simp only [ho,resolve,invoke,builtin,Sem.run_bind,Sem.run_pure,Result.andThen_ok,List.map_toArray,List.map_cons,List.map_nil,hs,hx,hrun]
 exact hK _ _ (h v' w' h2 h3 h4)
theorem own_cells {w:World} {base size n c:Nat} {e:TypeId} {A:Option Addr} {xs:List Value} (h:w.ownsRow base e size (.slice A n c) n xs):(∀ ad,A=some ad→∀ j u,xs[j]?=some u→w.cell? (ad.add j)=some u)∧(A=none→n=0):=by
 constructor
 ·intro ad e1 j u hu
  subst e1
  have hz:ad=⟨ad.block,0,none⟩:=by
   rcases h.2 with ⟨h1,_⟩ | ⟨g,cap,cur,h1,_⟩
   ·cases h1
   ·cases h1;rfl
  have:=h.cells (g:=ad.block) rfl j u hu
  rw [hz]
  exact this
 ·intro e1
  rcases h.2 with ⟨_,h0⟩ | ⟨g,cap,cur,h1,_⟩
  ·exact h0
  ·rw [e1] at h1;cases h1
theorem docs_one {w:World} {S:List (Int×Value)} {M:List (Int×List (Int×Int))} {far:Nat→Prop} (hl:S.length=M.length) (h2:∀ (i:Nat) (p:Int×Value) (x:Int×List (Int×Int)),S[i]?=some p→M[i]?=some x→PostAt w x p far):∀ u∈S.flatMap docCells,u.oneCell'=true:=by
 intro u hu
 obtain ⟨p,hp,hup⟩:=List.mem_flatMap.1 hu
 obtain ⟨i,hi⟩:=List.getElem?_of_mem hp
 have hlt:=(List.getElem?_eq_some_iff.1 hi).1
 obtain ⟨_,_,A,c,e,_⟩:=h2 i p _ hi (List.getElem?_eq_getElem (by omega:i < M.length))
 obtain ⟨d,sv⟩:=p
 simp only at e
 subst e
 exact doc_one _ _ _ _ u hup
theorem PostsO.le {w:World} {base base':Nat} {v:Value} {L:List (Int×List (Int×Int))} (h:PostsO w base v L) (hb:base'≤base):PostsO w base' v L:=by
 obtain ⟨R,h0,h1,h2⟩:=h
 exact ⟨R,h0,rowBase_le h1 hb,fun i p x e1 e2=>(h2 i p x e1 e2).mono (fun i _ hf=>⟨rfl,Nat.le_trans hb hf.1,hf.2⟩) (Nat.le_refl _)⟩
theorem PostsO.cat {w w':World} {base base2:Nat} {v v' v2:Value} {L M:List (Int×List (Int×Int))} {R S:List (Int×Value)} (hb:base≤base2) (hvb:∀ g,v.ownBlock=some g→g < base2) (h0:R.length=L.length) (k0:S.length=M.length)
  (h2:∀ (i:Nat) (p:Int×Value) (x:Int×List (Int×Int)),R[i]?=some p→L[i]?=some x→PostAt w x p fun i=>base≤i∧v.ownBlock≠some i)
  (k2:∀ (i:Nat) (p:Int×Value) (x:Int×List (Int×Int)),S[i]?=some p→M[i]?=some x→PostAt w x p fun i=>base2≤i∧v2.ownBlock≠some i)
  (ho:w'.ownsRow base 62 2 v' (L.length+M.length) (R.flatMap docCells++S.flatMap docCells)) (hg:w.grownBy w' v.ownBlock) (hloc:v'.ownBlock=v.ownBlock∨v'.ownBlock=some w.heap.size):PostsO w' base v' (L++M):=by
 have keep:∀ {y q},PostAt w y q (fun i=>base≤i∧v.ownBlock≠some i)→PostAt w' y q fun i=>base≤i∧v'.ownBlock≠some i:=fun h=>h.mono (fun i hi hf=>⟨hg.block i hi (fun e=>hf.2 e.symm),hf.1,by
  rcases hloc with e | e
  ·rw [e];exact hf.2
  ·rw [e]
   intro e2
   have:w.heap.size=i:=Option.some.inj e2
   omega⟩) hg.size
 refine ⟨R++S,by simp [h0,k0],by simpa using ho,fun i q y e1 e2=>?_⟩
 rcases Nat.lt_or_ge i L.length with hi | hi
 ·rw [List.getElem?_append_left (by omega)] at e1 e2
  exact keep (h2 i q y e1 e2)
 ·rw [List.getElem?_append_right (by omega)] at e1 e2
  rw [h0] at e1
  exact keep ((k2 _ q y e1 e2).mono (fun j _ hf=>⟨rfl,by omega,fun e=>by have:=hvb j e;omega⟩) (Nat.le_refl _))
def AllOut (w:World) (g:List Nm×Int) (e:Ending) (w':World):Prop:=
 ∃ v,e=.returned (.tuple #[v,.int .i64 g.2])∧RowsAt w' w.heap.size v g.1∧Below w.heap.size w w'
theorem alok {w w':World} {g:List Nm×Int} {L:List Nm} {e:Int} {v:Value} (h:g=(L,e)) (hr:RowsAt w' w.heap.size v L) (hb:Below w.heap.size w w'):AllOut w g (.returned (.tuple #[v,.int .i64 e])) w':=by
 subst h
 exact ⟨v,rfl,hr,hb⟩
theorem allAux_nil (f:Nat) (acc:List Nm):allAux f [] acc=(acc,0):=by cases f <;> simp [allAux]
theorem wholeAux_nil (f at_:Nat) (acc:List Nm):wholeAux f at_ [] acc=(acc,at_):=by cases f <;> simp [wholeAux]
end Go.Proofs.YthcjikpabpgpfaaGreat
