import Derived.Test.YthcjikpabpgpfaaGreatZp0
import Derived.Test.YthcjikpabpgpfaaGreatZp31
import Derived.Test.YthcjikpabpgpfaaGreatZp4
import Derived.Shelf.SlSorted.Search
import Derived.Shelf.SlSortCmp.QuietGrown
import Derived.Laws.IdiomCopy
import Derived.Lib.SliceRun
import Derived.Deep.RegionLaw
import Derived.Shelf.SlSortCmp.NoneTotal
import Derived.Test.YthcjikpabpgpfaaGreatZp28
import Derived.Test.YthcjikpabpgpfaaGreatZp8
import Derived.Lib.Overlaps
import Derived.Lib.AppendZerosOnto
import Derived.Deep.AppendLies
import Derived.Laws.Externs
import Derived.Maps.AppendAt
set_option linter.unusedSimpArgs false
set_option maxHeartbeats 16000000
set_option maxRecDepth 100000
namespace Go.Proofs.YthcjikpabpgpfaaGreat
open Go.RowKit Go.Maps Go.WideMaps Go.Sort
theorem own_step_at {w:World} {base:Nat} {v:Value} {st:List (Nat×Nat)} (h:w.ownsRow base 201 2 v st.length (st.flatMap stV)) {i:Nat} {x:Nat×Nat} (hx:st[i]?=some x):
  ∃ ad c,v=.slice (some ad) st.length c∧st.length≤c∧w.cell? (ad.add (i * 2))=some (.int .i64 x.1)∧w.cell? ⟨(ad.add (i * 2)).block,(ad.add (i * 2)).off+1,none⟩=some (.int .i64 x.2):=by
 have hp:=(List.getElem?_eq_some_iff.1 hx).1
 have hh:=h.2
 rcases hh with ⟨h1,h2⟩ | ⟨g,cap,cur,rfl,h1,h2,h3,h4,h5,h6⟩
 ·omega
 ·refine ⟨⟨g,0,none⟩,cap,rfl,h3,?_,?_⟩
  ·rw [addr_add]
   have:=h.cells (g:=g) rfl (i * 2) (.int .i64 x.1) (flat_at (f:=stV) (s:=2) (fun _=>rfl) st i 0 x _ hx rfl)
   rw [addr_add] at this
   exact this
  ·rw [addr_add]
   have:=h.cells (g:=g) rfl (i * 2+1) (.int .i64 x.2) (flat_at (f:=stV) (s:=2) (fun _=>rfl) st i 1 x _ hx rfl)
   rw [addr_add] at this
   exact this
theorem grow_below (w:World) (os:Array Obj):Below w.heap.size w (grow w os):=⟨rfl,rfl,rfl,by simp,fun k hk=>heap_grow_old w os hk⟩
theorem find1_any (W:World) (r pb sb:Nat) (s x:Nat×Nat) (ad:Addr) (n c i:Nat) (hi:i < n)
  (h1:W.cell? ⟨pb,0,none⟩=some (at0 r)) (h2:W.cell? ⟨r,4,none⟩=some (.slice (some ad) n c)) (h3:W.cell? ⟨sb,0,none⟩=some (.int .i64 s.1)) (h4:W.cell? ⟨sb,1,none⟩=some (.int .i64 s.2))
  (h5:W.cell? (ad.add (i * 2))=some (.int .i64 x.1)) (h6:W.cell? ⟨(ad.add (i * 2)).block,(ad.add (i * 2)).off+1,none⟩=some (.int .i64 x.2)):
  Calls Tryz.prog 188 #[.int .i64 i,.pointer (some ⟨pb,0,none⟩),.pointer (some ⟨sb,0,none⟩)] W fun e w'=>e=.returned (.bool (decide (¬ gtS x s)))∧∃ q os,w'=grow (W.drewN q) os:=by
 have mixed:Tryz.prog.follows .mixedOrders=true:=by kernel_rfl
 obtain ⟨s1,s2⟩:=s
 obtain ⟨x1,x2⟩:=x
 unfold at0 at h1
 have k1:=fun n os=>cell_grown (World.block_lt_of_cell? W _ h1) h1 n os
 have k2:=fun n os=>cell_grown (World.block_lt_of_cell? W _ h2) h2 n os
 have k3:=fun n os=>cell_grown (World.block_lt_of_cell? W _ h3) h3 n os
 have k4:=fun n os=>cell_grown (World.block_lt_of_cell? W _ h4) h4 n os
 have k5:=fun n os=>cell_grown (World.block_lt_of_cell? W _ h5) h5 n os
 have k6:=fun n os=>cell_grown (World.block_lt_of_cell? W _ h6) h6 n os
 have hb:=dwn_neg (x1,x2) (s1,s2)
 have hf:=dwn_fits (x1,x2) (s1,s2)
 have hd:=fun (W:World)=>downwards_any W (x1,x2) (s1,s2)
 obtain ⟨d,hdd⟩:∃ d,d=dwn (x1,x2) (s1,s2):=⟨_,rfl⟩
 rw [← hdd] at hb hf hd
 have HDD:=Lib.hid hdd
 obtain ⟨G,hG⟩:∃ G,G=decide (¬ gtS (x1,x2) (s1,s2)):=⟨_,rfl⟩
 rw [← hG]
 have hg:decide (d ≥ 0)=G:=by rw [hG];exact decide_eq_decide.2 ⟨fun h e=>by have:=hb.2 e;omega,fun h=>by
  rcases Int.lt_or_le d 0 with h1 | h1
  ·exact absurd (hb.1 h1) h
  ·exact h1⟩
 have HG:=Lib.hid hg
 have HD:=Lib.hid hd
 have hiz:(0:Int)≤(i:Int):=by omega
 have hin:(i:Int) < (n:Int):=by omega
 clear h1 h2 h3 h4 h5 h6 hb hd hdd hG hg hf
 go_enter Tryz.func188,Tryz.ntmps188
 go_wp2_with fail
 go_quiet_grown ((go_at_call 115;exact Calls.grown_of (HD.out _)))
 clear k1 k2 k3 k4 k5 k6
 have hg:=HG.out
 go_wp2
 go_ret
 refine ⟨?_,_,_,rfl⟩
 simp only [Ending.returned.injEq,Value.bool.injEq]
 first | exact hg | (rw [← hg];rfl)
theorem find_any (w0 w:World) (r b:Nat) {at_ before behind:List Int} {st:List (Nat×Nat)} (hR:Row w0 w r b at_ before behind st) (hs:st.Pairwise gtS) (s:Nat×Nat):
  Calls Tryz.prog 157 #[at0 r,.agg #[.int .i64 s.1,.int .i64 s.2]] w fun e w'=>e=.returned (.int .i64 (idxS st s:Nat))∧Below w.heap.size w w':=by
 obtain ⟨va,vb,vc,vs,hR⟩:=hR
 have hRW:=hR
 have b2:Below w.heap.size w ((w.alloc (.cells #[at0 r] 126)).alloc (.cells #[.int .i64 s.1,.int .i64 s.2] 201)):=((Below.refl _ w).alloc (Nat.le_refl _) _).alloc (by simp) _
 obtain ⟨W,hW⟩:∃ W,W=(w.alloc (.cells #[at0 r] 126)).alloc (.cells #[.int .i64 s.1,.int .i64 s.2] 201):=⟨_,rfl⟩
 have B1:Blk W w.heap.size 126 #[at0 r]:=by rw [hW];exact (Blk.new w _ _).alloc _
 have B2:Blk W (w.heap.size+1) 201 #[.int .i64 s.1,.int .i64 s.2]:=by
  rw [hW]
  have:=Blk.new (w.alloc (.cells #[at0 r] 126)) 201 #[.int .i64 s.1,.int .i64 s.2]
  simpa using this
 rw [← hW] at b2
 have HW:=Lib.hid hW
 have HB2:=Lib.hid b2
 have hR1:=hR.then b2
 obtain ⟨A,c,rfl⟩:=own_slice hR1.stR
 have g1:=B1.cell 0
 have g2:=B2.cell 0
 have g3:=B2.cell 1
 have g4:W.cell? ⟨r,4,none⟩=some (.slice A st.length c):=by have:=hR1.blk.cell 4;simpa using this
 simp only [lz0,lz1,lz2] at g1 g2 g3
 have eg:∀ args w,(callFunc 188 args).run Tryz.prog w=.ok (.enter 188 args) w:=enters_of Tryz.func188 (by kernel_rfl) rfl
 have hS:=Any.sort_Search Tryz.search 188 #[.pointer (some ⟨w.heap.size,0,none⟩),.pointer (some ⟨w.heap.size+1,0,none⟩)] st.length (fun i=>decide (¬ gtS (st.getD i (0,0)) s)) W eg (by have:=hR1.small.2.2.2;omega)
  (fun m os i hi=>by
   have hx:st[i]?=some (st.getD i (0,0)):=by rw [List.getD_eq_getElem?_getD,List.getElem?_eq_getElem hi];rfl
   obtain ⟨ad,c',e1,_,e2,e3⟩:=own_step_at hR1.stR hx
   simp only [Value.slice.injEq,true_and] at e1
   obtain ⟨rfl,rfl⟩:=e1
   have key:∀ {a:Addr} {v:Value},W.cell? a=some v→(grow (W.drewN m) os).cell? a=some v:=fun h=>cell_grown (World.block_lt_of_cell? W _ h) h m os
   exact find1_any _ r w.heap.size (w.heap.size+1) s _ ad st.length c i hi (key g1) (key g4) (key g2) (key g3) (key e2) (key e3))
  (fun a b hab hbn hp=>by
   have hx:st[a]?=some (st.getD a (0,0)):=by rw [List.getD_eq_getElem?_getD,List.getElem?_eq_getElem (by omega)];rfl
   have hy:st[b]?=some (st.getD b (0,0)):=by rw [List.getD_eq_getElem?_getD,List.getElem?_eq_getElem hbn];rfl
   have h1:=idxS_at hs s hx
   have h2:=idxS_at hs s hy
   simp only [decide_eq_true_eq] at hp ⊢
   exact fun e=>hp (h1.2 (by have:=h2.1 e;omega)))
 change Calls Tryz.prog 187 _ _ _ at hS
 have hcount:((List.range st.length).countP fun i=>!(fun i=>decide (¬ gtS (st.getD i (0,0)) s)) i)=idxS st s:=by
  unfold idxS
  have e:st=(List.range st.length).map fun i=>st.getD i (0,0):=by
   apply List.ext_getElem
   ·simp
   ·intro i h1 h2
    simp [List.getD_eq_getElem?_getD,h1]
  conv=>rhs;rw [e]
  rw [List.countP_map]
  congr 1
  funext i
  simp
 rw [hcount] at hS
 have HS:=Lib.hid hS
 obtain ⟨n,hn⟩:∃ n,n=st.length:=⟨_,rfl⟩
 rw [← hn] at g4 HS
 obtain ⟨I,hI⟩:∃ I,I=idxS st s:=⟨_,rfl⟩
 rw [← hI] at HS
 rw [← hI]
 rw [hW] at g1 g4
 clear hR hRW hR1 hS hcount hn hI hs B1 B2 hW b2 g2 g3 eg
 unfold at0 at g1 g4 HW ⊢
 go_enter Tryz.func157,Tryz.ntmps157
 go_wp2_with (go_at_call 187;rw [← HW.out];refine HS.out.mono ?_;rintro e w' ⟨rfl,q,os,rfl⟩)
 go_ret
 exact ⟨rfl,below_then (below_drewN HB2.out q) (grow_below (W.drewN q) os) HB2.out.size⟩
end Go.Proofs.YthcjikpabpgpfaaGreat
namespace Go.Proofs.YthcjikpabpgpfaaGreat
open Go.RowKit Go.Maps Go.WideMaps
theorem run_copy_cellsK {P:Program} (w:World) (dT sT ty elem:TypeId) (i:TypeInfo) (k:Nat) (b o dLen dCap:Nat) (a:Addr) (sLen sCap m:Nat) (cs:List Value)
  (hu:P.underlying dT=some (.slice elem)) (hi:P.info? elem=some i) (hs:i.size=k) (hm:Nat.min sLen dLen=m) (hn:cs.length=m * k)
  (hsrc:∀ j v,cs[j]?=some v→w.cell? (a.add j)=some v) (hc:∀ j,j < cs.length→(w.cell? ⟨b,o+j,none⟩).isSome=true) (hf:∀ j,j < cs.length→w.frozen? ⟨b,o+j,none⟩=false) (h1:∀ v∈cs,v.oneCell'=true):
  (Builtin.copy_ #[dT,sT] ty #[.slice (some ⟨b,o,none⟩) dLen dCap,.slice (some a) sLen sCap]).run P w=.ok (goInt m) (w.setCells b o cs):=by
 have hl:=run_loadCells_list (P:=P) w a cs hsrc
 have hst:=run_storeCells_cells (P:=P) b o cs 0 w (by simpa using hc) (by simpa using hf) h1
 simp [Builtin.copy_,run_underlying hu,Builtin.lenOf,Builtin.firstCells,sizeOf,typeInfo,hi,hs,hm,← hn,hl,hst]
theorem run_clear_cells {P:Program} (w:World) (t e ty:TypeId) (z:Value) (ht:P.underlying t=some (.slice e)) (hv:∀ w,(zeroValue e).run P w=.ok z w) (b o n c:Nat) (hn:0 < n) (h1:∀ v∈(Builtin.zeroCells z.cells n).toList,v.oneCell'=true)
  (hc:∀ j,j < n * z.cells.size→(w.cell? ⟨b,o+j,none⟩).isSome=true) (hf:∀ j,j < n * z.cells.size→w.frozen? ⟨b,o+j,none⟩=false):
  (Builtin.clear_ #[t] ty #[.slice (some ⟨b,o,none⟩) n c]).run P w=.ok (.tuple #[]) (w.setCells b o (Builtin.zeroCells z.cells n).toList):=by
 have hl:(Builtin.zeroCells z.cells n).toList.length=n * z.cells.size:=by simp [Builtin.zeroCells]
 have hst:=run_storeCells_cells (P:=P) b o (Builtin.zeroCells z.cells n).toList 0 w (by rw [hl];simpa using hc) (by rw [hl];simpa using hf) h1
 simp only [Nat.add_zero] at hst
 obtain ⟨m,rfl⟩:∃ m,n=m+1:=⟨n - 1,by omega⟩
 simp [Builtin.clear_,run_underlying ht,hv,hst]
def seg (l:List Value) (o:Nat) (vs:List Value):List Value:=l.take o++vs++l.drop (o+vs.length)
theorem seg_len {l:List Value} {o:Nat} {vs:List Value} (h:o+vs.length≤l.length):(seg l o vs).length=l.length:=by
 unfold seg;simp;omega
theorem setCells_blk {g:Nat} {t:TypeId}:∀ (vs:List Value) (o:Nat) (w:World) (cs:Array Value),Blk w g t cs→o+vs.length≤cs.size→Blk (w.setCells g o vs) g t (seg cs.toList o vs).toArray
 | [],o,w,cs,h,hl=>by
  have:(seg cs.toList o []).toArray=cs:=by unfold seg;simp
  rw [this];exact h
 | v :: r,o,w,cs,h,hl=>by
  simp only [List.length_cons] at hl
  have ih:=setCells_blk r (o+1) (w.setCell ⟨g,o,none⟩ v) (cs.setIfInBounds o v) (h.set_ o v) (by simp;omega)
  rw [World.setCells]
  have e:seg (cs.setIfInBounds o v).toList (o+1) r=seg cs.toList o (v :: r):=by
   unfold seg
   have:=list_seg_step cs.toList o v r (by simp;omega)
   simpa using this
  rw [← e];exact ih
theorem setCells_heap (g:Nat):∀ (vs:List Value) (o:Nat) (w:World) (k:Nat),k≠g→(w.setCells g o vs).heap[k]?=w.heap[k]?
 | [],_,_,_,_=>rfl
 | v :: r,o,w,k,h=>by rw [World.setCells,setCells_heap g r _ _ k h,heap_setCell_other _ _ _ h]
theorem setCells_rest (g:Nat):∀ (vs:List Value) (o:Nat) (w:World),(w.setCells g o vs).os=w.os∧(w.setCells g o vs).tape=w.tape∧(w.setCells g o vs).output=w.output∧(w.setCells g o vs).heap.size=w.heap.size
 | [],_,_=>⟨rfl,rfl,rfl,rfl⟩
 | v :: r,o,w=>by
  rw [World.setCells]
  obtain ⟨h1,h2,h3,h4⟩:=setCells_rest g r (o+1) (w.setCell ⟨g,o,none⟩ v)
  exact ⟨h1,h2,h3,by rw [h4,size_setCell']⟩
theorem grown_setCells {w w':World} {g:Nat} (h:w.grownBy w' (some g)) (o:Nat) (vs:List Value):w.grownBy (w'.setCells g o vs) (some g):=by
 obtain ⟨h1,h2,h3,h4⟩:=setCells_rest g vs o w'
 exact ⟨h1.trans h.os,h2.trans h.tape,h3.trans h.output,by rw [h4];exact h.size,fun k hk hne=>by rw [setCells_heap g vs o w' k (fun e=>hne (by rw [e]))];exact h.block k hk hne⟩
theorem grown_new {w w':World} {row:Option Nat} (h:w.grownBy w' row) {g:Nat} (hg:w.heap.size≤g) (o:Nat) (vs:List Value):w.grownBy (w'.setCells g o vs) row:=by
 obtain ⟨h1,h2,h3,h4⟩:=setCells_rest g vs o w'
 exact ⟨h1.trans h.os,h2.trans h.tape,h3.trans h.output,by rw [h4];exact h.size,fun k hk hne=>by rw [setCells_heap g vs o w' k (by omega)];exact h.block k hk hne⟩
theorem grown_drew {w w':World} {row:Option Nat} (h:w.grownBy w' row):w.grownBy w'.drew row:=⟨h.os,h.tape,h.output,h.size,h.block⟩
theorem grown_refl (w:World) (row:Option Nat):w.grownBy w row:=⟨rfl,rfl,rfl,Nat.le_refl _,fun _ _ _=>rfl⟩
theorem grown_alloc {w w':World} {row:Option Nat} (h:w.grownBy w' row) (o:Obj):w.grownBy (w'.alloc o) row:=
 ⟨h.os,h.tape,h.output,by have:=h.size;simp;omega,fun k hk hne=>by rw [Below.heap_alloc w' o k (by have:=h.size;omega)];exact h.block k hk hne⟩
theorem ownsRow_of {w:World} {base g n cap:Nat} {e:TypeId} {size:Nat} {cs:Array Value} {xs:List Value} (h:Blk w g e cs) (hb:base≤g) (hn:n≤cap) (hc:cap≤maxLen) (hs:cs.size=cap * size) (hx:cs.toList.take (n * size)=xs):
  w.ownsRow base e size (.slice (some ⟨g,0,none⟩) n cap) n xs:=by
 have hle:n * size≤cap * size:=Nat.mul_le_mul_right _ hn
 refine ⟨?_,.inr ⟨g,cap,cs,rfl,hb,h,hn,hc,hs,hx⟩⟩
 rw [← hx]
 simp
 omega
theorem blk_isSome {w:World} {g:Nat} {t:TypeId} {cs:Array Value} (h:Blk w g t cs) {j:Nat} (hj:j < cs.size):(w.cell? ⟨g,j,none⟩).isSome=true:=by
 rw [h.cell j,Array.getElem?_eq_getElem hj];rfl
theorem stepInfo:(Tryz.prog.info? 201).map (fun i=>(i.zero,i.size,i.bytes))=some (some (.agg #[.int .i64 0,.int .i64 0]),2,16):=by kernel_rfl
theorem stepZero (w:World):(zeroValue 201).run Tryz.prog w=.ok (.agg #[.int .i64 0,.int .i64 0]) w:=by kernel_rfl
theorem stV_one (st:List (Nat×Nat)):∀ u∈st.flatMap stV,u.oneCell'=true:=by
 intro u hu
 obtain ⟨s,_,hs⟩:=List.mem_flatMap.1 hu
 simp [stV] at hs
 rcases hs with rfl | rfl <;> rfl
theorem stV_len (st:List (Nat×Nat)):(st.flatMap stV).length=st.length * 2:=by
 induction st with
 | nil=>rfl
 | cons s r ih=>simp [stV,ih];omega
theorem wpList_clear_run {P:Program} (w:World) {ops:Array Oper} {rest:List Oper} {o:Oper} {a:Act} {Q:Exit→Act→World→Prop} (hgd:o.guard=none) (d:Operand) (t:TypeId)
  (ho:o.op=.call { callee:=.builtin .clear,args:=#[d],argTypes:=#[t] }) (v:Value) (hd:a.eval d=v) {v':Value} {w':World}
  (hr:(Builtin.clear_ #[t] o.type #[v]).run P w=.ok v' w') (h:wpList P ops Q rest (a.put o.dst v') w'):wpList P ops Q (o :: rest) a w:=
 wpList_plain hgd fun K hK=>by
  unfold Oper.wp execOp
  simp only [ho,resolve,invoke,builtin,Sem.run_bind,Sem.run_pure,Result.andThen_ok,List.map_toArray,List.map_cons,List.map_nil,hd,hr]
  exact hK _ _ h
theorem del_any (w:World) (base:Nat) (v:Value) (n:Nat) (xs:List Value) (hown:w.ownsRow base 201 2 v n xs) (hone:∀ u∈xs,u.oneCell'=true) (i:Nat) (hi:i < n) (hn:n≤1048576):
  Calls Tryz.prog 158 #[v,.int .i64 i,.int .i64 ((i:Int)+1)] w fun e w'=>∃ v',e=.returned v'∧w'.ownsRow base 201 2 v' (n - 1) (xs.take (i * 2)++xs.drop (i * 2+2))∧w.grownBy w' v.ownBlock∧v'.ownBlock=v.ownBlock:=by
 obtain ⟨i0,hi0,hz0,hz1,hz2⟩:=info_parts stepInfo
 have hxl:=hown.1
 rcases hown.2 with ⟨rfl,h0⟩ | ⟨g,cap,cur,rfl,hb,hblk,hnc,hcm,hcs,hx⟩
 ·omega
 have HB:Blk w g 201 cur:=hblk
 unfold maxLen at hcm
 obtain ⟨m,rfl⟩:∃ m,n=m+1:=⟨n - 1,by omega⟩
 rw [show m+1 - 1=m by omega]
 obtain ⟨news,hnw⟩:∃ l,l=xs.drop (i * 2+2):=⟨_,rfl⟩
 rw [← hnw]
 have hnl:news.length=(m - i) * 2:=by rw [hnw,List.length_drop,hxl];omega
 have hn1:∀ u∈news,u.oneCell'=true:=fun u hu=>hone u (List.mem_of_mem_drop (hnw ▸ hu))
 have hcell:∀ (j:Nat) (u:Value),xs[j]?=some u→w.drew.cell? ⟨g,j,none⟩=some u:=fun j u hu=>by
  have:(w.drew).cell? ⟨g,j,none⟩=cur[j]?:=Blk.cell (w:=w.drew) hblk j
  rw [this,← Array.getElem?_toList]
  rw [← hx,List.getElem?_take] at hu
  split at hu
  ·exact hu
  ·cases hu
 obtain ⟨A,hA,hnews⟩:∃ A:Addr,(if cap=i+1 then some (⟨g,0,none⟩:Addr) else some ⟨g,(i+1) * 2,none⟩)=some A∧Hid (∀ j u,news[j]?=some u→w.drew.cell? (A.add j)=some u):=by
  by_cases h:cap=i+1
  ·refine ⟨⟨g,0,none⟩,by simp [h],fun j u hu=>?_⟩
   have:=(List.getElem?_eq_some_iff.1 hu).1
   omega
  ·refine ⟨⟨g,(i+1) * 2,none⟩,by simp [h],fun j u hu=>?_⟩
   rw [Addr.add_lit]
   refine hcell _ u ?_
   rw [hnw,List.getElem?_drop] at hu
   rw [show (i+1) * 2+j=i * 2+2+j by omega]
   exact hu
 have s1:Hid (news.length=(m - i) * 2):=hnl
 have s2:Hid (∀ u∈news,u.oneCell'=true):=hn1
 have s3:Hid (∀ j,j < news.length→(w.drew.cell? ⟨g,0+i * 2+j,none⟩).isSome=true∧w.drew.frozen? ⟨g,0+i * 2+j,none⟩=false):=fun j hj=>by
  refine ⟨blk_isSome (w:=w.drew) hblk (by omega),Blk.frozen (w:=w.drew) hblk _⟩
 have hB1:Blk (w.drew.setCells g (i * 2) news) g 201 (seg cur.toList (i * 2) news).toArray:=setCells_blk news _ w.drew cur hblk (by omega)
 have hsl:(seg cur.toList (i * 2) news).length=cap * 2:=by rw [seg_len (by simp;omega)];simp [hcs]
 obtain ⟨W1,hW1⟩:∃ W,W=w.drew.setCells g (i * 2) news:=⟨_,rfl⟩
 rw [← hW1] at hB1
 have hzc:(Value.agg #[.int .i64 0,.int .i64 0]).cells.size=2:=rfl
 have hzl:(Builtin.zeroCells (Value.agg #[.int .i64 0,.int .i64 0]).cells 1).toList=[.int .i64 0,.int .i64 0]:=by kernel_rfl
 have hclr:∀ ty c,(Builtin.clear_ #[128] ty #[.slice (some ⟨g,m * 2,none⟩) 1 c]).run Tryz.prog W1=.ok (.tuple #[]) (W1.setCells g (m * 2) [.int .i64 0,.int .i64 0]):=fun ty c=>by
  have h:=run_clear_cells (P:=Tryz.prog) W1 128 201 ty _ Tryz.underlying128 stepZero g (m * 2) 1 c (by omega) (by rw [hzl];intro u hu;simp at hu;subst hu;rfl)
   (fun j hj=>blk_isSome hB1 (by simp only [List.size_toArray,hsl];rw [hzc] at hj;omega)) (fun j hj=>hB1.frozen _)
  rw [hzl] at h
  exact h
 have hB2:Blk (W1.setCells g (m * 2) [.int .i64 0,.int .i64 0]) g 201 (seg (seg cur.toList (i * 2) news) (m * 2) [.int .i64 0,.int .i64 0]).toArray:=
  setCells_blk _ _ W1 _ hB1 (by simp only [List.size_toArray,hsl];simp;omega)
 have hG:w.grownBy (W1.setCells g (m * 2) [.int .i64 0,.int .i64 0]) (some g):=by
  rw [hW1]
  exact grown_setCells (grown_setCells (grown_drew (grown_refl w _)) _ _) _ _
 have hfin:(W1.setCells g (m * 2) [.int .i64 0,.int .i64 0]).ownsRow base 201 2 (.slice (some ⟨g,0,none⟩) m cap) m (xs.take (i * 2)++news):=by
  refine ownsRow_of hB2 hb (by omega) (by unfold maxLen;omega) ?_ ?_
  ·simp only [List.size_toArray]
   rw [seg_len (by rw [hsl];simp;omega),hsl]
  ·have hxt:xs.take (i * 2)=cur.toList.take (i * 2):=by rw [← hx,List.take_take];congr 1;omega
   have hcl:cur.toList.length=cap * 2:=by simp [hcs]
   rw [hxt]
   unfold seg
   have e1:(cur.toList.take (i * 2)).length=i * 2:=by simp;omega
   rw [List.take_append_of_le_length (by simp;omega),List.take_append_of_le_length (by simp;omega)]
   rw [List.take_take,Nat.min_self,List.take_append_of_le_length (by simp;omega)]
   rw [List.take_of_length_le (by simp;omega)]
 have HF:=Lib.hid hfin
 have HG:=Lib.hid hG
 have HC:=Lib.hid hclr
 have HW:=Lib.hid hW1
 have hmi:i+(m - i)=m:=by omega
 have hmi2:m+1 - (i+1)=m - i:=by omega
 have hi0':(0:Int)≤(i:Int):=by omega
 have hp0:(0:Int)≤(i:Int)+1:=by omega
 have hp1:(i:Int)+1≤(m:Int)+1:=by omega
 have hp2:((i:Int)+1).toNat=i+1:=by omega
 have hin:i≤cap:=by omega
 have hne:((i:Int)==(i:Int)+1)=false:=by simp;omega
 clear hblk hown hx hcell hnw hnl hn1 hB1 hB2 hG hfin hclr hW1 hxl hone hcs hsl hzc hzl
 go_enter Tryz.func158,Tryz.ntmps158
 go_wp2_with fail
 go_region_law (refine step_append_room rfl (.tmp 22) (.tmp 25) 128 rfl 201 i0 2 Tryz.underlying128 hi0 hz1 g 0 i cap (by simp [Act.eval,Act.put]) A (m - i) (cap - (i+1)) news (by simp [Act.eval,Act.put,hmi2]) s1.out hnews.out s2.out (by omega) s3.out ?_)
 rw [← HW.out]
 clear HW hA s1 s2 s3 hnews
 go_wp2_with (refine wpList_clear_run _ rfl (.tmp 31) 128 rfl _ rfl (HC.out _ _) ?_)
 go_ret
 exact ⟨_,rfl,HF.out,HG.out,rfl⟩
end Go.Proofs.YthcjikpabpgpfaaGreat
namespace Go.Proofs.YthcjikpabpgpfaaGreat
open Go.RowKit Go.Maps Go.WideMaps Go.Sort
theorem dwn_swo:SWO (ltOf dwn) where
 irrefl:=fun x=>by
  simp only [ltOf,decide_eq_false_iff_not]
  exact fun h=>gtS_irr x ((dwn_neg x x).1 h)
 trans:=fun x y z h1 h2=>by
  simp only [ltOf,decide_eq_true_eq] at *
  exact (dwn_neg x z).2 (gtS_trans ((dwn_neg x y).1 h1) ((dwn_neg y z).1 h2))
 ntrans:=fun x y z h1 h2=>by
  simp only [ltOf,decide_eq_false_iff_not] at *
  intro h3
  have h3:=(dwn_neg x z).1 h3
  have h1:¬ gtS x y:=fun e=>h1 ((dwn_neg x y).2 e)
  have h2:¬ gtS y z:=fun e=>h2 ((dwn_neg y z).2 e)
  unfold gtS at *
  omega
theorem flat_get (st:List (Nat×Nat)) {t:Nat} (ht:t < st.length * 2):(st.flatMap stV)[t]?=some ((stV st.toArray[t / 2]!)[t % 2]!):=by
 have hi:t / 2 < st.length:=by omega
 have hx:st[t / 2]?=some st[t / 2]:=List.getElem?_eq_getElem hi
 have e1:st.toArray[t / 2]! = st[t / 2]:=by rw [getElem!_pos _ _ (by simpa using hi)];simp
 rw [e1]
 have h:=fun (u:Value) (hu:(stV st[t / 2])[t % 2]?=some u)=>flat_at (f:=stV) (s:=2) (fun _=>rfl) st (t / 2) (t % 2) st[t / 2] u hx hu
 rw [show t / 2 * 2+t % 2=t by omega] at h
 refine h _ ?_
 rcases Nat.mod_two_eq_zero_or_one t with e | e <;> rw [e] <;> rfl
theorem flat_size (st:List (Nat×Nat)):(flatK stV 2 st.toArray).size=st.length * 2:=by simp
def SortOut (w:World) (base:Nat) (v:Value) (st:List (Nat×Nat)) (e:Ending) (w':World):Prop:=
 e=.returned (.tuple #[])∧∃ st':List (Nat×Nat),st'.Perm st∧(∀ (i j:Nat) (x y:Nat×Nat),i < j→st'[i]?=some x→st'[j]?=some y→¬ gtS y x)∧w'.ownsRow base 201 2 v st'.length (st'.flatMap stV)∧w.grownBy w' v.ownBlock
theorem sort_any (w:World) (base:Nat) (v:Value) (st:List (Nat×Nat)) (hown:w.ownsRow base 201 2 v st.length (st.flatMap stV)) (hsm:st.length≤1048576):
  Calls Tryz.prog 114 #[v,.func (.func 115) #[] #[]] w (SortOut w base v st):=by
 rcases hown.2 with ⟨rfl,h0⟩ | ⟨g,cap,cur,rfl,hb,hblk,hnc,hcm,hcs,hx⟩
 ·have h:=AnyF.slices_SortFunc_none Tryz.sortStep none 0 (.func (.func 115) #[] #[]) w
  have e:st=[]:=List.eq_nil_of_length_eq_zero h0
  subst e
  refine Calls.mono (f:=114) h ?_
  rintro e w' ⟨rfl,rfl⟩
  exact ⟨rfl,[],.refl _,fun i j x y _ h=>by simp at h,hown,grown_refl _ _⟩
 ·have eg:∀ args w,(callFunc 115 args).run Tryz.prog w=.ok (.enter 115 args) w:=enters_of Tryz.func115 (by kernel_rfl) rfl
  have hH:HoldsK stV 2 w g 0 st.toArray:=fun t ht=>by
   rw [flat_size] at ht
   have h1:=flat_get st ht
   have h2:=hown.cells (g:=g) rfl t _ h1
   rw [addr_add] at h2
   refine ⟨?_,Blk.frozen hblk _⟩
   rw [Nat.zero_add,h2,get_flatK _ _ _ _ (by simpa using ht)]
   rfl
  have h:=AnyQ.slices_SortFunc Tryz.sortStep 2 Tryz.isAgg201 Tryz.sizeOf201 stV (fun _=>rfl) (fun x u hu=>by simp [stV] at hu;rcases hu with rfl | rfl <;> rfl) dwn dwn_swo 115 #[] g 0 cap st.toArray w eg (fun m os dk _ x y=>downwards_any _ x y) hH (Blk.lt hblk) (by simp;omega)
  simp only [List.size_toArray] at h
  refine Calls.mono (f:=114) h ?_
  rintro e w' ⟨rfl,d',n,os,hp,hs,rfl⟩
  have hsz:d'.size=st.length:=by simpa using hp.1
  have hperm:d'.toList.Perm st:=by
   have:=hp.2.2
   have e:d'.toList.take st.length=d'.toList:=List.take_of_length_le (by simp [hsz])
   simp [hsz] at this
   rw [e] at this
   exact this
  have hB:Blk (sortWorldK stV 2 w g 0 n d' os) g 201 (putCells id 0 (flatK stV 2 d') cur):=by
   unfold sortWorldK putRowK putRow
   unfold Blk
   rw [heap_grow_old _ _ (by have:=Blk.lt hblk;simpa [mapBlock] using this)]
   simp [mapBlock,Array.getElem?_modify,hblk,onCells]
  have hd:d'=d'.toList.toArray:=by simp
  have hl:d'.toList.length=st.length:=by simpa using hsz
  refine ⟨rfl,d'.toList,hperm,?_,?_,?_⟩
  ·intro i j x y hij hxi hyj hg
   have hj:=(List.getElem?_eq_some_iff.1 hyj)
   have hi:=(List.getElem?_eq_some_iff.1 hxi)
   have:=hs i j (Nat.zero_le _) hij (by have:=hj.1;simp at this;simp;omega)
   rw [getElem!_pos d' j (by simpa using hj.1),getElem!_pos d' i (by simpa using hi.1)] at this
   have e1:d'[j]'(by simpa using hj.1)=y:=by have:=hj.2;simpa using this
   have e2:d'[i]'(by simpa using hi.1)=x:=by have:=hi.2;simpa using this
   rw [e1,e2] at this
   simp only [ltOf,decide_eq_false_iff_not] at this
   exact this ((dwn_neg y x).2 hg)
  ·rw [hl]
   refine ownsRow_of hB hb hnc hcm (by simp [putCells,hcs]) ?_
   apply List.ext_getElem?
   intro t
   rw [List.getElem?_take]
   by_cases ht:t < st.length * 2
   ·rw [if_pos ht,flat_get _ (by rw [hl];exact ht)]
    have htc:t < cur.size:=by omega
    simp only [putCells,Array.getElem?_toList,Array.getElem?_mapIdx]
    rw [Array.getElem?_eq_getElem htc]
    simp only [Option.map_some,Nat.zero_le,true_and,Nat.zero_add,size_flatK,hsz,ht,if_true,Nat.sub_zero,id,Option.some.injEq]
    rw [get_flatK _ _ _ _ (by rw [hsz];exact ht),← hd]
   ·rw [if_neg ht,List.getElem?_eq_none (by rw [stV_len,hl];omega)]
  ·refine ⟨rfl,rfl,rfl,by simp [sortWorldK,putRowK],fun k hk hne=>?_⟩
   have hne':k≠g:=fun e=>hne (by rw [e];rfl)
   unfold sortWorldK putRowK putRow
   rw [heap_grow_old _ _ (by simpa [mapBlock] using hk)]
   simp [mapBlock,Array.getElem?_modify,Ne.symm hne']
end Go.Proofs.YthcjikpabpgpfaaGreat
namespace Go.Proofs.YthcjikpabpgpfaaGreat
open Go.RowKit Go.Maps Go.WideMaps
theorem wpList_copy_known {P:Program} (w:World) {ops:Array Oper} {rest:List Oper} {o:Oper} {a:Act} {Q:Exit→Act→World→Prop} (hgd:o.guard=none) (d s:Operand) (t t':TypeId)
  (ho:o.op=.call { callee:=.builtin .copy,args:=#[d,s],argTypes:=#[t,t'] }) (v u:Value) (hd:a.eval d=v) (hs:a.eval s=u) {v':Value} {w':World}
  (hr:(Builtin.copy_ #[t,t'] o.type #[v,u]).run P w=.ok v' w') (h:wpList P ops Q rest (a.put o.dst v') w'):wpList P ops Q (o :: rest) a w:=
 wpList_plain hgd fun K hK=>by
  unfold Oper.wp execOp
  simp only [ho,resolve,invoke,builtin,Sem.run_bind,Sem.run_pure,Result.andThen_ok,List.map_toArray,List.map_cons,List.map_nil,hd,hs,hr]
  exact hK _ _ h
theorem step_copy_known {P:Program} {ops:Array Oper} {o:Oper} {a:Act} {w:World} {K:Act→World→Prop} {Q:Exit→Act→World→Prop} {E:Prop}
  (hg:o.guard=none) (d x:Operand) (dT sT:TypeId) (hop:o.op=Op.call { callee:=Callee.builtin Builtin.copy,args:=#[d,x],argTypes:=#[dT,sT] })
  (v u:Value) (hd:a.eval d=v) (hx:a.eval x=u) {v':Value} {w':World} (hr:(Builtin.copy_ #[dT,sT] o.type #[v,u]).run P w=.ok v' w') (hK:K (a.put o.dst v') w'):
  if Region.wanted o (yielded ops a.tmps)=true then Oper.wp P o a w K Q else E:=by
 have hw:Region.wanted o (yielded ops a.tmps)=true:=by simp [Region.wanted,hg]
 rw [if_pos hw]
 unfold Oper.wp
 simp [execOp,hop,resolve,invoke,builtin,hd,hx,hr,Result.andThen]
 exact hK
def InsOut (w:World) (base:Nat) (v:Value) (n:Nat) (ys:List Value) (e:Ending) (w':World):Prop:=
 ∃ v',e=.returned v'∧w'.ownsRow base 201 2 v' (n+1) ys∧w.grownBy w' v.ownBlock∧(v'.ownBlock=v.ownBlock∨v'.ownBlock=some w.heap.size)
theorem ins_end (w:World) (base:Nat) (v:Value) (n:Nat) (xs:List Value) (hown:w.ownsRow base 201 2 v n xs) (hn:n≤1048576) (vb:Nat) (x y:Value) (hvb:Blk w vb 201 #[x,y])
  (h1x:x.oneCell'=true) (h1y:y.oneCell'=true) (hbase:base≤w.heap.size):
  Calls Tryz.prog 159 #[v,.int .i64 n,.slice (some ⟨vb,0,none⟩) 1 1] w (InsOut w base v n (xs++[x,y])):=by
 obtain ⟨i0,hi0,hz0,hz1,hz2⟩:=info_parts stepInfo
 obtain ⟨A,c,rfl⟩:=own_slice hown
 have hnc:n≤c:=by
  rcases hown.2 with ⟨h1,h2⟩ | ⟨g,cap,cur,h1,h2,h3,h4,_⟩
  ·omega
  ·simp only [Value.slice.injEq,true_and] at h1;omega
 have hnews:∀ (j:Nat) (u:Value),[x,y][j]?=some u→w.cell? ((⟨vb,0,none⟩:Addr).add j)=some u:=fun j u hu=>by
  rw [addr_add,hvb.cell j]
  simpa using hu
 have hone:∀ u∈[x,y],u.oneCell'=true:=fun u hu=>by
  simp at hu
  rcases hu with rfl | rfl
  ·exact h1x
  ·exact h1y
 have HN:=Lib.hid hnews
 have HO:=Lib.hid hown
 have H1:=Lib.hid hone
 clear hown hvb hnews hone h1x h1y
 have hz:((1:Int)==0)=false:=by decide
 by_cases hcn:c=n
 ·subst hcn
  have he:((c:Int)==(c:Int))=true:=by simp
  go_enter Tryz.func159,Tryz.ntmps159
  go_wp2_with (at_builtin;refine wpList_append_lies _ rfl (.tmp 23) (.tmp 24) 128 rfl base 201 i0 _ 2 16 Tryz.underlying128 hi0 hz0 hz1 hz2 rfl (by decide) (.slice A c c) c xs rfl HO.out ⟨vb,0,none⟩ 1 1 [x,y] rfl rfl HN.out H1.out (by omega) (by unfold maxLen;omega) (by omega) hbase _ rfl ?_;intro g cap w2 hown' hg2 hloc hlt2;have HOWN:=Lib.hid hown';have HG2:=Lib.hid hg2;have HLOC:=Lib.hid hloc;clear hown' hg2 hloc hlt2)
  go_ret
  exact ⟨_,rfl,HOWN.out,HG2.out,HLOC.out.imp (fun h=>Eq.symm h) (fun h=>by rw [h];rfl)⟩
 ·skip
  have he:((n:Int)==(n:Int))=true:=by simp
  go_enter Tryz.func159,Tryz.ntmps159
  go_wp2_with (at_builtin;refine wpList_append_lies _ rfl (.tmp 23) (.tmp 24) 128 rfl base 201 i0 _ 2 16 Tryz.underlying128 hi0 hz0 hz1 hz2 rfl (by decide) (.slice A n c) n xs rfl HO.out ⟨vb,0,none⟩ 1 1 [x,y] rfl rfl HN.out H1.out (by omega) (by unfold maxLen;omega) (by omega) hbase _ rfl ?_;intro g cap w2 hown' hg2 hloc hlt2;have HOWN:=Lib.hid hown';have HG2:=Lib.hid hg2;have HLOC:=Lib.hid hloc;clear hown' hg2 hloc hlt2)
  go_ret
  exact ⟨_,rfl,HOWN.out,HG2.out,HLOC.out.imp (fun h=>Eq.symm h) (fun h=>by rw [h];rfl)⟩
theorem ins_shift (w:World) (base g cap:Nat) (cur:Array Value) (n:Nat) (xs:List Value) (hblk:Blk w g 201 cur) (hb:base≤g) (hcm:cap≤maxLen) (hcs:cur.size=cap * 2) (hx:cur.toList.take (n * 2)=xs) (hone:∀ u∈xs,u.oneCell'=true)
  (i:Nat) (hi:i < n) (hn:n≤1048576) (hroom:n+1≤cap) (vb:Nat) (x y:Value) (hvb:Blk w vb 201 #[x,y]) (hne:vb≠g) (h1x:x.oneCell'=true) (h1y:y.oneCell'=true):
  Calls Tryz.prog 159 #[.slice (some ⟨g,0,none⟩) n cap,.int .i64 i,.slice (some ⟨vb,0,none⟩) 1 1] w (InsOut w base (.slice (some ⟨g,0,none⟩) n cap) n (xs.take (i * 2)++[x,y]++xs.drop (i * 2))):=by
 obtain ⟨i0,hi0,hz0,hz1,hz2⟩:=info_parts stepInfo
 have hxl:xs.length=n * 2:=by rw [← hx];simp;omega
 have hcl:cur.toList.length=cap * 2:=by simp [hcs]
 obtain ⟨D,hD⟩:∃ D,D=xs.drop (i * 2):=⟨_,rfl⟩
 rw [← hD]
 have hDl:D.length=(n - i) * 2:=by rw [hD,List.length_drop,hxl];omega
 have hD1:∀ u∈D,u.oneCell'=true:=fun u hu=>hone u (List.mem_of_mem_drop (hD ▸ hu))
 have hxy:∀ u∈[x,y],u.oneCell'=true:=fun u hu=>by
  simp at hu
  rcases hu with rfl | rfl
  ·exact h1x
  ·exact h1y
 have hcell:∀ (j:Nat) (u:Value),xs[j]?=some u→w.drew.cell? ⟨g,j,none⟩=some u:=fun j u hu=>by
  have:(w.drew).cell? ⟨g,j,none⟩=cur[j]?:=Blk.cell (w:=w.drew) hblk j
  rw [this,← Array.getElem?_toList]
  rw [← hx,List.getElem?_take] at hu
  split at hu
  ·exact hu
  ·cases hu
 have hov:∀ lb cb,(callFunc 189 #[.slice (some ⟨vb,0,none⟩) 1 1,.slice (some ⟨g,(i+1) * 2,none⟩) lb cb]).run Tryz.prog w=.ok (.value (.bool false)) w:=fun lb cb=>by
  rw [run_callFunc_extern Tryz.func189 (by kernel_rfl) (by kernel_rfl) (by kernel_rfl) (e:=Extern.SlicesOverlaps.overlaps #[128,128] #[4]) (by kernel_rfl),
   Lib.run_overlaps_apart w 128 4 201 Tryz.underlying128 2 Tryz.sizeOf201 ⟨vb,0,none⟩ ⟨g,(i+1) * 2,none⟩ 1 1 lb cb hne 201 201 2 cur.size (by unfold Blk at hvb;simp [World.shape?,hvb]) (by unfold Blk at hblk;simp [World.shape?,hblk]) (by omega) (hvb.frozen 0) (hvb.frozen 2)]
  rfl
 have hcp1:∀ ty dc sc,(Builtin.copy_ #[128,128] ty #[.slice (some ⟨g,(i+1) * 2,none⟩) (n - i) dc,.slice (some ⟨g,i * 2,none⟩) (n+1 - i) sc]).run Tryz.prog w.drew=.ok (goInt (n - i:Nat)) (w.drew.setCells g ((i+1) * 2) D):=fun ty dc sc=>
  run_copy_cellsK w.drew _ _ ty 201 i0 2 g ((i+1) * 2) (n - i) dc ⟨g,i * 2,none⟩ (n+1 - i) sc (n - i) D Tryz.underlying128 hi0 hz1 (by simp only [Nat.min_def];split <;> omega) hDl
   (fun j u hj=>by rw [Addr.add_lit];exact hcell (i * 2+j) u (by rw [hD,List.getElem?_drop] at hj;exact hj))
   (fun j hj=>blk_isSome (w:=w.drew) hblk (by omega)) (fun j hj=>Blk.frozen (w:=w.drew) hblk _) hD1
 obtain ⟨W1,hW1⟩:∃ W1,W1=w.drew.setCells g ((i+1) * 2) D:=⟨_,rfl⟩
 have hB1:Blk W1 g 201 (seg cur.toList ((i+1) * 2) D).toArray:=by rw [hW1];exact setCells_blk D _ w.drew cur hblk (by omega)
 have hs1:(seg cur.toList ((i+1) * 2) D).length=cap * 2:=by rw [seg_len (by omega)];exact hcl
 have hv1:Blk W1 vb 201 #[x,y]:=by rw [hW1];exact (setCells_heap g D _ w.drew vb hne).trans hvb
 have hcp2:∀ ty dc,(Builtin.copy_ #[128,128] ty #[.slice (some ⟨g,i * 2,none⟩) (n+1 - i) dc,.slice (some ⟨vb,0,none⟩) 1 1]).run Tryz.prog W1=.ok (goInt (1:Nat)) (W1.setCells g (i * 2) [x,y]):=fun ty dc=>
  run_copy_cellsK W1 _ _ ty 201 i0 2 g (i * 2) (n+1 - i) dc ⟨vb,0,none⟩ 1 1 1 [x,y] Tryz.underlying128 hi0 hz1 (by simp only [Nat.min_def];split <;> omega) rfl
   (fun j u hj=>by rw [addr_add,hv1.cell j];simpa using hj)
   (fun j hj=>blk_isSome hB1 (by simp only [List.size_toArray,hs1];simp at hj;omega)) (fun j hj=>hB1.frozen _) hxy
 have hB2:Blk (W1.setCells g (i * 2) [x,y]) g 201 (seg (seg cur.toList ((i+1) * 2) D) (i * 2) [x,y]).toArray:=setCells_blk _ _ W1 _ hB1 (by simp only [List.size_toArray,hs1];simp;omega)
 have hG:w.grownBy (W1.setCells g (i * 2) [x,y]) (some g):=by
  rw [hW1]
  exact grown_setCells (grown_setCells (grown_drew (grown_refl w _)) _ _) _ _
 have hfin:(W1.setCells g (i * 2) [x,y]).ownsRow base 201 2 (.slice (some ⟨g,0,none⟩) (n+1) cap) (n+1) (xs.take (i * 2)++[x,y]++D):=by
  refine ownsRow_of hB2 hb (by omega) hcm ?_ ?_
  ·simp only [List.size_toArray]
   rw [seg_len (by rw [hs1];simp;omega),hs1]
  ·have hxt:xs.take (i * 2)=cur.toList.take (i * 2):=by rw [← hx,List.take_take];congr 1;omega
   rw [hxt]
   show (seg (seg cur.toList ((i+1) * 2) D) (i * 2) [x,y]).take ((n+1) * 2)=_
   unfold seg
   have e1:(cur.toList.take ((i+1) * 2)).length=(i+1) * 2:=by simp;omega
   have e2:(cur.toList.take (i * 2)).length=i * 2:=by simp;omega
   have e3:(cur.toList.take ((i+1) * 2)++D++cur.toList.drop ((i+1) * 2+D.length)).take (i * 2)=cur.toList.take (i * 2):=by
    rw [List.append_assoc,List.take_append_of_le_length (by omega),List.take_take,Nat.min_eq_left (by omega)]
   have e4:(cur.toList.take ((i+1) * 2)++D++cur.toList.drop ((i+1) * 2+D.length)).drop (i * 2+[x,y].length)=D++cur.toList.drop ((i+1) * 2+D.length):=by
    rw [List.append_assoc]
    exact List.drop_left' (by rw [e1];simp;omega)
   rw [e3,e4,← List.append_assoc]
   rw [List.take_append_of_le_length (by simp;omega)]
   rw [List.take_of_length_le (by simp;omega)]
 obtain ⟨YS,hYS⟩:∃ YS,YS=xs.take (i * 2)++[x,y]++D:=⟨_,rfl⟩
 rw [← hYS] at hfin ⊢
 have HF:=Lib.hid hfin
 have HG:=Lib.hid hG
 have HC1:=Lib.hid hcp1
 have HC2:=Lib.hid hcp2
 have HW:=Lib.hid hW1
 unfold maxLen at hcm
 have hz:((1:Int)==0)=false:=by decide
 have hin:((i:Int)==(n:Int))=false:=by simp;omega
 have hw0:(0:Int)≤(i:Int):=by omega
 have hle:(i:Int)≤(n:Int):=by omega
 have hle2:(i:Int)≤(n:Int)+1:=by omega
 have hq1:IntKind.i64.wrap ((n:Int)+1)=(n:Int)+1:=by rw [IntKind.wrap_i64];omega
 have hq2:IntKind.i64.wrap ((i:Int)+1)=(i:Int)+1:=by rw [IntKind.wrap_i64];omega
 have hq3:((i:Int)+1).toNat=i+1:=by omega
 have hq4:((n:Int)+1).toNat=n+1:=by omega
 have hq5:(0:Int)≤(i:Int)+1:=by omega
 have hq6:(0:Int)≤(n:Int)+1:=by omega
 have hq7:(i:Int)+1≤(n:Int)+1:=by omega
 have hq8:(n:Int)+1≤(cap:Int):=by omega
 have hq9:¬ ((cap:Int) < (n:Int)+1):=by omega
 have hc1:¬ (cap=i):=by omega
 have hc2:¬ (cap=i+1):=by omega
 have hni:n+1 - (i+1)=n - i:=by omega
 clear hblk hx hcell hD hDl hD1 hB1 hs1 hv1 hB2 hG hfin hcp1 hcp2 hW1 hxl hcl hone hcs hxy hvb hYS
 go_enter Tryz.func159,Tryz.ntmps159
 go_wp2_with (simp only [hov])
 go_region_law (refine step_copy_known rfl (.tmp 73) (.tmp 76) 128 128 rfl (.slice (some ⟨g,(i+1) * 2,none⟩) (n - i) (cap - (i+1))) (.slice (some ⟨g,i * 2,none⟩) (n+1 - i) (cap - i)) (by simp [Act.eval,Act.put,hni]) (by simp [Act.eval,Act.put]) (HC1.out 3 _ _) ?_)
 rw [← HW.out]
 go_wp2_with (refine wpList_copy_known _ rfl (.tmp 80) (.tmp 81) 128 128 rfl _ _ rfl rfl (HC2.out _ _) ?_)
 go_ret
 exact ⟨_,rfl,HF.out,HG.out,.inl rfl⟩
theorem ins_grow (w:World) (base g cap:Nat) (cur:Array Value) (n:Nat) (xs:List Value) (hblk:Blk w g 201 cur) (hbase:base≤w.heap.size) (hcs:cur.size=cap * 2) (hx:cur.toList.take (n * 2)=xs) (hone:∀ u∈xs,u.oneCell'=true)
  (i:Nat) (hi:i < n) (hn:n≤1048576) (hnc:n≤cap) (hroom:cap < n+1) (vb:Nat) (x y:Value) (hvb:Blk w vb 201 #[x,y]) (h1x:x.oneCell'=true) (h1y:y.oneCell'=true):
  Calls Tryz.prog 159 #[.slice (some ⟨g,0,none⟩) n cap,.int .i64 i,.slice (some ⟨vb,0,none⟩) 1 1] w (InsOut w base (.slice (some ⟨g,0,none⟩) n cap) n (xs.take (i * 2)++[x,y]++xs.drop (i * 2))):=by
 obtain ⟨i0,hi0,hz0,hz1,hz2⟩:=info_parts stepInfo
 obtain rfl:cap=n:=by omega
 have hxl:xs.length=cap * 2:=by rw [← hx];simp;omega
 have hcl:cur.toList.length=cap * 2:=by simp [hcs]
 obtain ⟨D,hD⟩:∃ D,D=xs.drop (i * 2):=⟨_,rfl⟩
 obtain ⟨T,hT⟩:∃ T,T=xs.take (i * 2):=⟨_,rfl⟩
 rw [← hD,← hT]
 have hDl:D.length=(cap - i) * 2:=by rw [hD,List.length_drop,hxl];omega
 have hTl:T.length=i * 2:=by rw [hT,List.length_take,hxl];omega
 have hD1:∀ u∈D,u.oneCell'=true:=fun u hu=>hone u (List.mem_of_mem_drop (hD ▸ hu))
 have hxy:∀ u∈[x,y],u.oneCell'=true:=fun u hu=>by
  simp at hu
  rcases hu with rfl | rfl
  ·exact h1x
  ·exact h1y
 have hcell:∀ (j:Nat) (u:Value),xs[j]?=some u→w.cell? ⟨g,j,none⟩=some u:=fun j u hu=>by
  rw [hblk.cell j,← Array.getElem?_toList]
  rw [← hx,List.getElem?_take] at hu
  split at hu
  ·exact hu
  ·cases hu
 have hold:(Builtin.firstCells i0.size i (.slice (some ⟨g,0,none⟩) i cap)).run Tryz.prog w.drew=.ok T.toArray w.drew:=by
  rw [hz1]
  exact run_firstCells_some w.drew 2 i ⟨g,0,none⟩ i cap T hTl (fun j u hj=>by
   rw [Addr.add_lit]
   rw [hT,List.getElem?_take] at hj
   split at hj
   ·have:=hcell j u hj
    simpa using this
   ·cases hj)
 obtain ⟨G,hG⟩:∃ G,G=grownCap w (cap+1) cap 201:=⟨_,rfl⟩
 obtain ⟨ROW,hROW⟩:∃ ROW:Array Value,ROW=T.toArray++Builtin.zeroCells (Value.agg #[.int .i64 0,.int .i64 0]).cells (cap+1 - i)++Builtin.zeroCells (Value.agg #[.int .i64 0,.int .i64 0]).cells (G - (cap+1)):=⟨_,rfl⟩
 have hGn:cap+1≤G:=by rw [hG];exact grownCap_ge w _ _ _
 have hG63:G≤maxLen:=by
  have:=grownCap_le_maxLen w (cap+1) cap 201 (by unfold maxLen;omega)
  rw [← hG] at this
  exact this
 have hzz:(Value.agg #[.int .i64 0,.int .i64 0]).cells.size=2:=rfl
 have hRl:ROW.size=G * 2:=by
  rw [hROW]
  simp only [Array.size_append,List.size_toArray,hTl,Builtin.zeroCells,Array.size_map,Array.size_range,hzz]
  omega
 have hkk:(cap:Int)+1 - (i:Int)=((cap+1 - i:Nat):Int):=by omega
 have hik:i+(cap+1 - i)=cap+1:=by omega
 have hrz:∀ ty,(Builtin.append_ #[128,3] ty #[.slice (some ⟨g,0,none⟩) i cap,.int .i64 ((cap:Int)+1 - (i:Int))]).run Tryz.prog w=
   .ok (.slice (some ⟨w.heap.size,0,none⟩) (cap+1) G) (w.drew.alloc (.cells ROW 201)):=fun ty=>by
  have h:=Lib.run_append_grow_zeros w 128 3 ty 201 i0 _ .i64 .i64 Tryz.underlying128 Tryz.underlying3 hi0 hz0 (some ⟨g,0,none⟩) i cap T hold (cap+1 - i) (by omega) (by omega) (by omega) (by omega) (by rw [hz2];omega) (by rw [hz2,hik];exact growslice_fits (by omega) (by omega))
  rw [hik,← hG,← hROW] at h
  rw [hkk]
  exact h
 obtain ⟨W0,hW0⟩:∃ W0,W0=w.drew.alloc (.cells ROW 201):=⟨_,rfl⟩
 have hB0:Blk W0 w.heap.size 201 ROW:=by rw [hW0];exact Blk.new w.drew _ _
 have hv0:Blk W0 vb 201 #[x,y]:=by rw [hW0];exact Blk.alloc (w:=w.drew) hvb _
 have hg0:Blk W0 g 201 cur:=by rw [hW0];exact Blk.alloc (w:=w.drew) hblk _
 have hgl:=hblk.lt
 have hcpA:∀ ty dc,(Builtin.copy_ #[128,128] ty #[.slice (some ⟨w.heap.size,i * 2,none⟩) (cap+1 - i) dc,.slice (some ⟨vb,0,none⟩) 1 1]).run Tryz.prog W0=.ok (goInt (1:Nat)) (W0.setCells w.heap.size (i * 2) [x,y]):=fun ty dc=>
  run_copy_cellsK W0 _ _ ty 201 i0 2 w.heap.size (i * 2) (cap+1 - i) dc ⟨vb,0,none⟩ 1 1 1 [x,y] Tryz.underlying128 hi0 hz1 (by simp only [Nat.min_def];split <;> omega) rfl
   (fun j u hj=>by rw [addr_add,hv0.cell j];simpa using hj)
   (fun j hj=>blk_isSome hB0 (by simp at hj;omega)) (fun j hj=>hB0.frozen _) hxy
 obtain ⟨W1,hW1⟩:∃ W1,W1=W0.setCells w.heap.size (i * 2) [x,y]:=⟨_,rfl⟩
 have hB1:Blk W1 w.heap.size 201 (seg ROW.toList (i * 2) [x,y]).toArray:=by rw [hW1];exact setCells_blk _ _ W0 _ hB0 (by simp;omega)
 have hs1:(seg ROW.toList (i * 2) [x,y]).length=G * 2:=by rw [seg_len (by simp;omega)];simp [hRl]
 have hg1:Blk W1 g 201 cur:=by rw [hW1];exact (setCells_heap _ _ _ W0 g (by omega)).trans hg0
 have hcpB:∀ ty dc sc,(Builtin.copy_ #[128,128] ty #[.slice (some ⟨w.heap.size,(i+1) * 2,none⟩) (cap - i) dc,.slice (some ⟨g,i * 2,none⟩) (cap - i) sc]).run Tryz.prog W1.drew=.ok (goInt (cap - i:Nat)) (W1.drew.setCells w.heap.size ((i+1) * 2) D):=fun ty dc sc=>
  run_copy_cellsK W1.drew _ _ ty 201 i0 2 w.heap.size ((i+1) * 2) (cap - i) dc ⟨g,i * 2,none⟩ (cap - i) sc (cap - i) D Tryz.underlying128 hi0 hz1 (by simp only [Nat.min_def];split <;> omega) hDl
   (fun j u hj=>by
    rw [Addr.add_lit]
    have h1:W1.drew.cell? ⟨g,i * 2+j,none⟩=cur[i * 2+j]?:=Blk.cell (w:=W1.drew) hg1 _
    rw [h1,← hblk.cell]
    exact hcell (i * 2+j) u (by rw [hD,List.getElem?_drop] at hj;exact hj))
   (fun j hj=>blk_isSome (w:=W1.drew) hB1 (by simp only [List.size_toArray,hs1];omega)) (fun j hj=>Blk.frozen (w:=W1.drew) hB1 _) hD1
 have hB2:Blk (W1.drew.setCells w.heap.size ((i+1) * 2) D) w.heap.size 201 (seg (seg ROW.toList (i * 2) [x,y]) ((i+1) * 2) D).toArray:=setCells_blk D ((i+1) * 2) W1.drew (seg ROW.toList (i * 2) [x,y]).toArray hB1 (by simp only [List.size_toArray,hs1];omega)
 have hgr:w.grownBy (W1.drew.setCells w.heap.size ((i+1) * 2) D) (some g):=by
  rw [hW1,hW0]
  exact grown_new (grown_drew (grown_new (grown_alloc (grown_drew (grown_refl w _)) _) (Nat.le_refl _) _ _)) (Nat.le_refl _) _ _
 have hfin:(W1.drew.setCells w.heap.size ((i+1) * 2) D).ownsRow base 201 2 (.slice (some ⟨w.heap.size,0,none⟩) (cap+1) G) (cap+1) (T++[x,y]++D):=by
  refine ownsRow_of hB2 hbase hGn hG63 ?_ ?_
  ·simp only [List.size_toArray]
   rw [seg_len (by rw [hs1];omega),hs1]
  ·show (seg (seg ROW.toList (i * 2) [x,y]) ((i+1) * 2) D).take ((cap+1) * 2)=_
   have hRT:ROW.toList.take (i * 2)=T:=by
    rw [hROW]
    simp only [Array.toList_append,List.append_assoc]
    exact List.take_left' hTl
   have e1:(seg ROW.toList (i * 2) [x,y]).take ((i+1) * 2)=T++[x,y]:=by
    unfold seg
    rw [hRT]
    exact List.take_left' (by simp;omega)
   rw [seg,e1]
   exact List.take_left' (by simp;omega)
 obtain ⟨YS,hYS⟩:∃ YS,YS=T++[x,y]++D:=⟨_,rfl⟩
 rw [← hYS] at hfin ⊢
 have HF:=Lib.hid hfin
 have HG:=Lib.hid hgr
 have HC1:=Lib.hid hcpA
 have HC2:=Lib.hid hcpB
 have HZ:=Lib.hid hrz
 have HW0:=Lib.hid hW0
 have HW1:=Lib.hid hW1
 unfold maxLen at hG63
 have hz:((1:Int)==0)=false:=by decide
 have hin:((i:Int)==(cap:Int))=false:=by simp;omega
 have hw0:(0:Int)≤(i:Int):=by omega
 have hle:(i:Int)≤(cap:Int):=by omega
 have hle2:(i:Int)≤(cap:Int)+1:=by omega
 have hq1:IntKind.i64.wrap ((cap:Int)+1)=(cap:Int)+1:=by rw [IntKind.wrap_i64];omega
 have hq2:IntKind.i64.wrap ((i:Int)+1)=(i:Int)+1:=by rw [IntKind.wrap_i64];omega
 have hq3:((i:Int)+1).toNat=i+1:=by omega
 have hq5:(0:Int)≤(i:Int)+1:=by omega
 have hq7:(i:Int)+1≤(cap:Int)+1:=by omega
 have hq9:(cap:Int) < (cap:Int)+1:=by omega
 have hc1:¬ (G=i):=by omega
 have hc2:¬ (G=i+1):=by omega
 have hc3:¬ (cap=i):=by omega
 have hni:cap+1 - (i+1)=cap - i:=by omega
 clear hblk hx hcell hD hDl hD1 hB1 hs1 hB2 hG hfin hcpA hcpB hW1 hW0 hxl hcl hone hcs hxy hvb hYS hT hTl hold hROW hzz hRl hkk hik hrz hB0 hv0 hg0 hg1 hgr
 go_enter Tryz.func159,Tryz.ntmps159
 go_wp2_with (at_builtin;refine Lib.wpList_append_run _ rfl (.tmp 34) (.tmp 39) 128 3 rfl _ _ rfl rfl _ _ (HZ.out _) ?_;rw [← HW0.out];go_wp2_with (refine wpList_copy_known _ rfl (.tmp 43) (.tmp 44) 128 128 rfl _ _ rfl rfl (HC1.out _ _) ?_;rw [← HW1.out]))
 go_region_law (refine step_copy_known rfl (.tmp 50) (.tmp 53) 128 128 rfl (.slice (some ⟨w.heap.size,(i+1) * 2,none⟩) (cap - i) (G - (i+1))) (.slice (some ⟨g,i * 2,none⟩) (cap - i) (cap - i)) (by simp [Act.eval,Act.put,hni]) (by simp [Act.eval,Act.put]) (HC2.out 3 _ _) ?_)
 go_wp2_with fail
 go_ret
 exact ⟨_,rfl,HF.out,HG.out,.inr rfl⟩
theorem ins_any (w:World) (base:Nat) (v:Value) (n:Nat) (xs:List Value) (hown:w.ownsRow base 201 2 v n xs) (hone:∀ u∈xs,u.oneCell'=true) (i:Nat) (hi:i≤n) (hn:n≤1048576) (vb:Nat) (x y:Value) (hvb:Blk w vb 201 #[x,y])
  (hne:v.ownBlock≠some vb) (h1x:x.oneCell'=true) (h1y:y.oneCell'=true) (hbase:base≤w.heap.size):
  Calls Tryz.prog 159 #[v,.int .i64 i,.slice (some ⟨vb,0,none⟩) 1 1] w (InsOut w base v n (xs.take (i * 2)++[x,y]++xs.drop (i * 2))):=by
 rcases Nat.lt_or_ge i n with h | h
 ·rcases hown.2 with ⟨_,h0⟩ | ⟨g,cap,cur,rfl,hb,hblk,hnc,hcm,hcs,hx⟩
  ·omega
  ·rcases Nat.lt_or_ge cap (n+1) with h2 | h2
   ·exact ins_grow w base g cap cur n xs hblk hbase hcs hx hone i h hn hnc h2 vb x y hvb h1x h1y
   ·exact ins_shift w base g cap cur n xs hblk hb hcm hcs hx hone i h hn h2 vb x y hvb (fun e=>hne (by rw [e];rfl)) h1x h1y
 ·obtain rfl:i=n:=by omega
  have hl:=hown.1
  rw [List.take_of_length_le (by omega),List.drop_eq_nil_of_le (by omega),List.append_nil]
  exact ins_end w base v i xs hown hn vb x y hvb h1x h1y hbase
theorem stV_take:∀ (st:List (Nat×Nat)) (i:Nat),(st.flatMap stV).take (i * 2)=(st.take i).flatMap stV
 | [],i=>by simp
 | s :: r,0=>by simp
 | s :: r,i+1=>by
  have ih:=stV_take r i
  rw [List.take_succ_cons,List.flatMap_cons,List.flatMap_cons,← ih]
  rw [show (i+1) * 2=(stV s).length+i * 2 by simp [stV];omega]
  rw [List.take_append,List.take_of_length_le (by omega),Nat.add_sub_cancel_left]
theorem stV_drop:∀ (st:List (Nat×Nat)) (i:Nat),(st.flatMap stV).drop (i * 2)=(st.drop i).flatMap stV
 | [],i=>by simp
 | s :: r,0=>by simp
 | s :: r,i+1=>by
  have ih:=stV_drop r i
  rw [List.drop_succ_cons,List.flatMap_cons,← ih]
  rw [show (i+1) * 2=(stV s).length+i * 2 by simp [stV];omega]
  rw [← List.drop_drop,List.drop_left]
theorem IsRow.setSt {w0 w w2:World} {r b:Nat} {at_ before behind:List Int} {st st':List (Nat×Nat)} {va vb vc vs vs':Value} (h:IsRow w0 w r b at_ before behind st va vb vc vs)
  (hown:w2.ownsRow w0.heap.size 201 2 vs' st'.length (st'.flatMap stV)) (hg:w.grownBy w2 vs.ownBlock) (hs:st'.length≤1048576) (hF:∀ s∈st',s.1≤1048576∧s.2≤1048576):
  IsRow w0 (w2.setCell ⟨r,4,none⟩ vs') r b at_ before behind st' va vb vc vs':=by
 have hrb:=h.blk.lt
 have hnr:vs.ownBlock≠some r:=own_blk_ne h.stR h.blk (by decide)
 have hblk2:Blk w2 r 130 #[at0 b,va,vb,vc,vs]:=h.blk.grown hg (fun e=>hnr e.symm)
 have hold:∀ {v:Value} {l:List Int},w.ownsRow w0.heap.size 3 1 v l.length (l.map i64V)→(w2.setCell ⟨r,4,none⟩ vs').ownsRow w0.heap.size 3 1 v l.length (l.map i64V):=fun hv=>
  ownsRow_block hv fun g e=>by
   rw [heap_setCell_other _ _ _ (fun e2=>own_blk_ne hv h.blk (by decide) (by rw [e,e2]))]
   exact hg.block g (hv.lt g e).2 (fun e2=>own_row_ne hv h.stR (by decide) g e e2.symm)
 exact {
  blk:=by have:=hblk2.set_ 4 vs';simpa using this
  new:=h.new
  below:=by
   have h1:Below w0.heap.size w0 w2:=h.below.grown hg h.below.size (fun k e=>(h.stR.lt k e).1)
   exact h1.setCell h.new _
  atR:=hold h.atR
  befR:=hold h.befR
  behR:=hold h.behR
  stR:=ownsRow_block hown fun g e=>heap_setCell_other _ _ _ fun e2=>own_blk_ne hown hblk2 (by decide) (by rw [e,e2])
  nab:=h.nab
  nac:=h.nac
  nbc:=h.nbc
  fits:=h.fits
  small:=⟨h.small.1,h.small.2.1,h.small.2.2.1,hs⟩
  stF:=hF }
structure StStep (w w':World) (r:Nat) (vs vs':Value):Prop where
 size:w.heap.size≤w'.heap.size
 keep:∀ g,g < w.heap.size→g≠r→vs.ownBlock≠some g→w'.heap[g]?=w.heap[g]?
 own:vs'.ownBlock=vs.ownBlock∨∀ g,vs'.ownBlock=some g→w.heap.size≤g
theorem StStep.trans {w w1 w2:World} {r:Nat} {vs v1 v2:Value} (h:StStep w w1 r vs v1) (k:StStep w1 w2 r v1 v2):StStep w w2 r vs v2 where
 size:=Nat.le_trans h.size k.size
 keep:=fun g hg hr hv=>(k.keep g (Nat.lt_of_lt_of_le hg h.size) hr (by
  rcases h.own with e | e
  ·rw [e];exact hv
  ·exact fun e2=>by have:=e g e2;omega)).trans (h.keep g hg hr hv)
 own:=by
  rcases k.own with e | e
  ·rcases h.own with e1 | e1
   ·exact .inl (e.trans e1)
   ·exact .inr fun g hg=>e1 g (e ▸ hg)
  ·exact .inr fun g hg=>Nat.le_trans h.size (e g hg)
theorem StStep.below {w w':World} (hb:Below w.heap.size w w') (r:Nat) (vs:Value):StStep w w' r vs vs:=⟨hb.size,fun g hg _ _=>hb.block g hg,.inl rfl⟩
theorem StStep.set {w w2 w3:World} {r:Nat} {vs v':Value} (hb:Below w.heap.size w w2) (hg:w2.grownBy w3 vs.ownBlock) (ho:v'.ownBlock=vs.ownBlock∨v'.ownBlock=some w2.heap.size):StStep w (w3.setCell ⟨r,4,none⟩ v') r vs v' where
 size:=by rw [size_setCell'];exact Nat.le_trans hb.size hg.size
 keep:=fun g hl hr hv=>by
  rw [heap_setCell_other _ _ _ hr,hg.block g (Nat.lt_of_lt_of_le hl hb.size) (fun e=>hv e.symm)]
  exact hb.block g hl
 own:=by
  rcases ho with e | e
  ·exact .inl e
  ·refine .inr fun g hg=>?_
   rw [e] at hg
   cases hg
   exact hb.size
theorem StStep.blk {w w':World} {r:Nat} {vs vs':Value} (h:StStep w w' r vs vs') {g:Nat} {t:TypeId} {cs:Array Value} (hb:Blk w g t cs) (hr:g≠r) (hv:vs.ownBlock≠some g):Blk w' g t cs:=hb.same (h.keep g hb.lt hr hv)
def Steps (w0 w:World) (r b:Nat) (at_ before behind:List Int) (st:List (Nat×Nat)) (va vb vc vs:Value) (e:Ending) (w':World):Prop:=
 e=.returned (.tuple #[])∧∃ vs',IsRow w0 w' r b at_ before behind st va vb vc vs'∧StStep w w' r vs vs'
def StepAt (M:List Mg) (at_ behind:List Int) (place:Int) (s:Option (Nat×Nat)):Prop:=StepIs M at_ behind place (s.map (·.1))∧∀ k p,s=some (k,p)→place=p
theorem drop_any (w0 w:World) (r b:Nat) (V:Voc) (hC:Coder w0 b V) {at_ before behind:List Int} {st:List (Nat×Nat)} {va vb vc vs:Value} (hR:IsRow w0 w r b at_ before behind st va vb vc vs) (hsort:st.Pairwise gtS) {place:Int} {s:Option (Nat×Nat)} (hs:StepAt V.mer at_ behind place s)
  (hmem:∀ x,s=some x→st[idxS st x]?=some x):
  Calls Tryz.prog 116 #[at0 r,.int .i64 place] w (Steps w0 w r b at_ before behind (dropO st s) va vb vc vs):=by
 have hstep:=stepAt_any w0 w r b V (hC.below hR.below) ⟨va,vb,vc,vs,hR⟩ hs.1
 have hI:=hR
 have HR:=Lib.hid hI
 clear hR
 have hsm:=hI.small.2.2.2
 have HS:=Lib.hid hstep
 have HP:=Lib.hid hs.2
 have HM:=Lib.hid hmem
 have HSO:=Lib.hid hsort
 clear hstep hC hs hmem hsort hI
 unfold at0
 go_enter Tryz.func116,Tryz.ntmps116
 cases s with
 | none=>
  go_wp2_with (go_at_call 113;refine HS.out.mono ?_;rintro e w1 ⟨x,y,rfl,hk,hb⟩;have HB:=Lib.hid hb;clear hb hk)
  go_end0
  exact ⟨rfl,vs,(HR.out.then HB.out).then ((Below.refl _ w1).alloc (Nat.le_refl _) _),.below (below_then HB.out ((Below.refl _ w1).alloc (Nat.le_refl _) _) HB.out.size) _ _⟩
 | some sp=>
  obtain ⟨k,p⟩:=sp
  obtain rfl:place=p:=HP.out k p rfl
  have hM:=HM.out (k,p) rfl
  obtain ⟨I,hI⟩:∃ I,I=idxS st (k,p):=⟨_,rfl⟩
  rw [← hI] at hM
  have hIl:I < st.length:=(List.getElem?_eq_some_iff.1 hM).1
  have hI0:(I:Int)≤1048576:=by omega
  have HI:=Lib.hid hI
  have hds:dropS st (k,p)=st.take I++st.drop (I+1):=by unfold dropS;rw [hI]
  have HD:=Lib.hid hds
  clear hI hM hds
  go_wp2_with fail
  refine HS.out.mono ?_
  rintro e w1 ⟨x,y,rfl,hk,hb⟩
  obtain ⟨rfl,rfl⟩:=hk k rfl
  have b1:Below w1.heap.size w1 (w1.alloc (.cells #[.int .i64 k,.int .i64 p] 201)):=(Below.refl _ w1).alloc (Nat.le_refl _) _
  have HB:=Lib.hid ((HR.out.then hb).then b1)
  have HK:=Lib.hid (below_then hb b1 hb.size)
  have hcells:=Blk.new w1 201 #[.int .i64 k,.int .i64 p]
  have s0:=hcells.cell 0
  have s1:=hcells.cell 1
  simp only [lz0,lz1,lz2] at s0 s1
  clear hb b1 hcells hk
  go_wp2_with fail
  refine (find_any w0 _ r b ⟨va,vb,vc,vs,HB.out⟩ HSO.out (k,p)).mono ?_
  rintro e w2 ⟨rfl,hb2⟩
  rw [← HI.out]
  have hR2:=HB.out.then hb2
  have g4:w2.cell? ⟨r,4,none⟩=some vs:=by have:=hR2.blk.cell 4;simpa using this
  have HR2:=Lib.hid hR2
  have HK2:=Lib.hid (below_then HK.out hb2 HK.out.size)
  clear hb2 hR2 s0 s1
  go_wp2_with fail
  refine (del_any w2 w0.heap.size vs st.length (st.flatMap stV) HR2.out.stR (stV_one st) I hIl hsm).mono ?_
  rintro e w3 ⟨v',rfl,hown,hg,hloc⟩
  have hst:(dropS st (k,p)).length=st.length - 1:=by rw [HD.out,List.length_append,List.length_take,List.length_drop];omega
  have hcs:(st.flatMap stV).take (I * 2)++(st.flatMap stV).drop (I * 2+2)=(dropS st (k,p)).flatMap stV:=by
   rw [HD.out,List.flatMap_append,stV_take,show I * 2+2=(I+1) * 2 by omega,stV_drop]
  rw [hcs,← hst] at hown
  obtain ⟨A3,c3,rfl⟩:=own_slice hown
  have hfin:=HR2.out.setSt hown hg (by omega) (fun s hs=>HR2.out.stF s (by
   rw [HD.out] at hs
   rcases List.mem_append.1 hs with h | h
   ·exact List.mem_of_mem_take h
   ·exact List.mem_of_mem_drop h))
  have hb3:Blk w3 r 130 #[at0 b,va,vb,vc,vs]:=HR2.out.blk.grown hg (fun e=>own_blk_ne HR2.out.stR HR2.out.blk (by decide) e.symm)
  have e4:w3.cell? ⟨r,4,none⟩=some vs:=by have:=hb3.cell 4;simpa using this
  have z4:=hb3.frozen 4
  have HF:=Lib.hid hfin
  have HKF:=Lib.hid (StStep.set (r:=r) HK2.out hg (.inl hloc))
  clear hown hg hloc hst hcs hfin hb3 g4
  go_wp2_with fail
  go_end0
  exact ⟨rfl,_,HF.out,HKF.out⟩
end Go.Proofs.YthcjikpabpgpfaaGreat
namespace Go.Proofs.YthcjikpabpgpfaaGreat
section
variable {n:Nat} {l:List Int} {qs:List Nat} {at_ before behind:List Int}
theorem RowOK.stepAt (h:RowOK n l qs at_ before behind) {M:List Mg} {j p:Nat} (hp:qs[j]?=some p) (hj:j < l.length):StepAt M at_ behind p (stepOf M l qs j):=by
 refine ⟨?_,fun k p' e=>?_⟩
 ·rcases Nat.lt_or_ge (j+1) l.length with h1 | h1
  ·obtain ⟨q,hq⟩:=h.get (i:=j+1) (by omega)
   have ha:l[j]?=some (l[j]'hj):=List.getElem?_eq_getElem _
   have hb:l[j+1]?=some (l[j+1]'h1):=List.getElem?_eq_getElem _
   have e:(stepOf M l qs j).map (·.1)=rkOf M (l[j]'hj) (l[j+1]'h1):=by
    unfold stepOf
    rw [hp,pairRk_at ha hb]
    cases rkOf M (l[j]'hj) (l[j+1]'h1) <;> rfl
   rw [e]
   exact .pair p q _ _ (h.beh j p q hp hq) (by rw [h.atL];exact h.lt h1 hq) (h.tok j _ p ha hp) (h.tok (j+1) _ q hb hq)
  ·have e:stepOf M l qs j=none:=by
    unfold stepOf
    rw [hp,pairRk_end h1]
   rw [e]
   have hlast:=h.last
   rw [show l.length=j+1 by omega] at hlast
   refine .stop p ?_
   rw [h.atL]
   exact h.beh j p n hp hlast
 ·have:=(stepOf_some.1 e).1
  rw [hp] at this
  cases this
  rfl
theorem RowOK.ahead (h:RowOK n l qs at_ before behind) {i p:Nat} (hp:qs[i]?=some p) (hi:i < l.length) (M:List Mg):∃ pa:Int,before[p]?=some pa∧StepAt M at_ behind pa (stepAhead M l qs i):=by
 cases i with
 | zero=>
  have:p=0:=by have:=h.first;rw [hp] at this;cases this;rfl
  subst this
  exact ⟨-1,h.bef0,.neg,fun k p e=>by cases e⟩
 | succ j=>
  obtain ⟨r,hr⟩:=h.get (i:=j) (by omega)
  exact ⟨r,h.bef j r p hr hp,h.stepAt hr (by omega)⟩
theorem RowOK.step_small (h:RowOK n l qs at_ before behind) {M:List Mg} {j:Nat} {x:Nat×Nat} (hx:stepOf M l qs j=some x):x.1 < M.length∧x.2≤n:=by
 obtain ⟨h1,h2⟩:=stepOf_some.1 hx
 obtain ⟨a,b,_,_,h3⟩:=pairRk_some h2
 exact ⟨(rkOf_lt h3).1,h.le h1⟩
end
theorem dropO_len (st:List (Nat×Nat)) (o:Option (Nat×Nat)):(dropO st o).length≤st.length:=by
 cases o with
 | none=>exact Nat.le_refl _
 | some s=>show (dropS st s).length≤_;unfold dropS;rw [List.length_append,List.length_take,List.length_drop];omega
theorem dropO_less {st:List (Nat×Nat)} {S:Nat×Nat→Prop} (h:StOK st S) {s:Nat×Nat} (hs:S s):(dropO st (some s)).length+1=st.length:=by
 have:=(List.getElem?_eq_some_iff.1 (h.at_ hs)).1
 show (dropS st s).length+1=_
 unfold dropS
 rw [List.length_append,List.length_take,List.length_drop]
 omega
theorem addO_len (st:List (Nat×Nat)) (o:Option (Nat×Nat)):(addO st o).length≤st.length+1:=by
 cases o with
 | none=>exact Nat.le_succ _
 | some s=>
  have:=idxS_le st s
  show (addS st s).length≤_
  unfold addS
  rw [List.length_append,List.length_cons,List.length_take,List.length_drop]
  omega
end Go.Proofs.YthcjikpabpgpfaaGreat
namespace Go.Proofs.YthcjikpabpgpfaaGreat
open Go.RowKit Go.Maps Go.WideMaps
theorem own_set {w:World} {base:Nat} {e:TypeId} {ad:Addr} {n c:Nat} {xs:List Value} (h:w.ownsRow base e 1 (.slice (some ad) n c) n xs) (p:Nat) (u:Value):(w.setCell (ad.add p) u).ownsRow base e 1 (.slice (some ad) n c) n (xs.set p u):=by
 rcases h.2 with ⟨h1,_⟩ | ⟨g,cap,cur,h1,hb,hblk,hnc,hcm,hcs,hx⟩
 ·cases h1
 ·simp only [Value.slice.injEq,Option.some.injEq,true_and] at h1
  obtain ⟨rfl,rfl⟩:=h1
  rw [addr_add]
  have hB:Blk w g e cur:=hblk
  refine ownsRow_of (hB.set_ p u) hb hnc hcm (by simpa using hcs) ?_
  rw [← hx,Array.toList_setIfInBounds,List.take_set]
theorem own_set_cell {w:World} {base:Nat} {e:TypeId} {ad:Addr} {n c:Nat} {xs:List Value} (h:w.ownsRow base e 1 (.slice (some ad) n c) n xs):(∃ g,ad=⟨g,0,none⟩)∧∀ p,w.frozen? (ad.add p)=false:=by
 rcases h.2 with ⟨h1,_⟩ | ⟨g,cap,cur,h1,hb,hblk,hnc,hcm,hcs,hx⟩
 ·cases h1
 ·simp only [Value.slice.injEq,Option.some.injEq,true_and] at h1
  obtain ⟨rfl,rfl⟩:=h1
  exact ⟨⟨g,rfl⟩,fun p=>by rw [addr_add];exact Blk.frozen hblk p⟩
theorem map_set (l:List Int) (p:Nat) (x:Int):(l.map i64V).set p (.int .i64 x)=(l.set p x).map i64V:=by
 rw [List.map_set];rfl
theorem fits_set {l:List Int} (h:∀ x∈l,fits64 x) (p:Nat) {x:Int} (hx:fits64 x):∀ y∈l.set p x,fits64 y:=fun y hy=>by
 rcases List.mem_or_eq_of_mem_set hy with h1 | h1
 ·exact h y h1
 ·rw [h1];exact hx
theorem add_block (ad:Addr) (p:Nat):(ad.add p).block=ad.block:=by unfold Addr.add;split <;> rfl
section
variable {w0 w:World} {r b:Nat} {at_ before behind:List Int} {st:List (Nat×Nat)} {va vb vc vs:Value} {ad:Addr} {c p:Nat} {x:Int}
theorem IsRow.setAt (h:IsRow w0 w r b at_ before behind st (.slice (some ad) at_.length c) vb vc vs) (hx:fits64 x):
  IsRow w0 (w.setCell (ad.add p) (.int .i64 x)) r b (at_.set p x) before behind st (.slice (some ad) at_.length c) vb vc vs:=by
 have hb:=(h.atR.lt ad.block rfl).1
 have oth:∀ {e:TypeId} {size m:Nat} {v:Value} {xs:List Value},w.ownsRow w0.heap.size e size v m xs→v.ownBlock≠some ad.block→(w.setCell (ad.add p) (.int .i64 x)).ownsRow w0.heap.size e size v m xs:=fun hv hne=>
  ownsRow_block hv fun g e=>heap_setCell_other _ _ _ (by rw [add_block];exact fun e2=>hne (by rw [e,e2]))
 exact {
  blk:=h.blk.far (by rw [add_block];exact fun e=>own_blk_ne h.atR h.blk (by decide) (by rw [e];rfl)) _
  new:=h.new
  below:=h.below.setCell (by rw [add_block];exact hb) _
  atR:=by
   have:=own_set h.atR p (.int .i64 x)
   rw [map_set] at this
   rw [List.length_set]
   exact this
  befR:=oth h.befR (h.nab _ rfl)
  behR:=oth h.behR (h.nac _ rfl)
  stR:=oth h.stR (own_row_ne h.atR h.stR (by decide) _ rfl)
  nab:=h.nab
  nac:=h.nac
  nbc:=h.nbc
  fits:=⟨fits_set h.fits.1 p hx,h.fits.2⟩
  small:=by rw [List.length_set];exact h.small
  stF:=h.stF }
theorem IsRow.setBef (h:IsRow w0 w r b at_ before behind st va (.slice (some ad) before.length c) vc vs) (hx:fits64 x):
  IsRow w0 (w.setCell (ad.add p) (.int .i64 x)) r b at_ (before.set p x) behind st va (.slice (some ad) before.length c) vc vs:=by
 have hb:=(h.befR.lt ad.block rfl).1
 have oth:∀ {e:TypeId} {size m:Nat} {v:Value} {xs:List Value},w.ownsRow w0.heap.size e size v m xs→v.ownBlock≠some ad.block→(w.setCell (ad.add p) (.int .i64 x)).ownsRow w0.heap.size e size v m xs:=fun hv hne=>
  ownsRow_block hv fun g e=>heap_setCell_other _ _ _ (by rw [add_block];exact fun e2=>hne (by rw [e,e2]))
 exact {
  blk:=h.blk.far (by rw [add_block];exact fun e=>own_blk_ne h.befR h.blk (by decide) (by rw [e];rfl)) _
  new:=h.new
  below:=h.below.setCell (by rw [add_block];exact hb) _
  atR:=oth h.atR (fun e=>h.nab _ e rfl)
  befR:=by
   have:=own_set h.befR p (.int .i64 x)
   rw [map_set] at this
   rw [List.length_set]
   exact this
  behR:=oth h.behR (h.nbc _ rfl)
  stR:=oth h.stR (own_row_ne h.befR h.stR (by decide) _ rfl)
  nab:=h.nab
  nac:=h.nac
  nbc:=h.nbc
  fits:=⟨h.fits.1,fits_set h.fits.2.1 p hx,h.fits.2.2⟩
  small:=by rw [List.length_set];exact h.small
  stF:=h.stF }
theorem IsRow.setBeh (h:IsRow w0 w r b at_ before behind st va vb (.slice (some ad) behind.length c) vs) (hx:fits64 x):
  IsRow w0 (w.setCell (ad.add p) (.int .i64 x)) r b at_ before (behind.set p x) st va vb (.slice (some ad) behind.length c) vs:=by
 have hb:=(h.behR.lt ad.block rfl).1
 have oth:∀ {e:TypeId} {size m:Nat} {v:Value} {xs:List Value},w.ownsRow w0.heap.size e size v m xs→v.ownBlock≠some ad.block→(w.setCell (ad.add p) (.int .i64 x)).ownsRow w0.heap.size e size v m xs:=fun hv hne=>
  ownsRow_block hv fun g e=>heap_setCell_other _ _ _ (by rw [add_block];exact fun e2=>hne (by rw [e,e2]))
 exact {
  blk:=h.blk.far (by rw [add_block];exact fun e=>own_blk_ne h.behR h.blk (by decide) (by rw [e];rfl)) _
  new:=h.new
  below:=h.below.setCell (by rw [add_block];exact hb) _
  atR:=oth h.atR (fun e=>h.nac _ e rfl)
  befR:=oth h.befR (fun e=>h.nbc _ e rfl)
  behR:=by
   have:=own_set h.behR p (.int .i64 x)
   rw [map_set] at this
   rw [List.length_set]
   exact this
  stR:=oth h.stR (own_row_ne h.behR h.stR (by decide) _ rfl)
  nab:=h.nab
  nac:=h.nac
  nbc:=h.nbc
  fits:=⟨h.fits.1,h.fits.2.1,fits_set h.fits.2.2 p hx⟩
  small:=by rw [List.length_set];exact h.small
  stF:=h.stF }
theorem IsRow.cl {va:Value} (h:IsRow w0 w r b at_ before behind st va vb vc vs):w.cell? ⟨r,0,none⟩=some (.pointer (some ⟨b,0,none⟩))∧w.cell? ⟨r,1,none⟩=some va∧w.cell? ⟨r,2,none⟩=some vb∧w.cell? ⟨r,3,none⟩=some vc∧w.cell? ⟨r,4,none⟩=some vs:=by
 have h0:=h.blk.cell 0
 have h1:=h.blk.cell 1
 have h2:=h.blk.cell 2
 have h3:=h.blk.cell 3
 have h4:=h.blk.cell 4
 unfold at0 at h0
 exact ⟨by simpa using h0,by simpa using h1,by simpa using h2,by simpa using h3,by simpa using h4⟩
end
theorem own_int_cell {w:World} {base:Nat} {ad:Addr} {n c:Nat} {l:List Int} (h:w.ownsRow base 3 1 (.slice (some ad) n c) n (l.map i64V)) {p:Nat} {x:Int} (hx:l[p]?=some x):w.cell? (ad.add p)=some (.int .i64 x)∧w.frozen? (ad.add p)=false:=
 ⟨(src_of_own h).cells ad rfl p (.int .i64 x) (by rw [List.getElem?_map,hx];rfl),(own_set_cell h).2 p⟩
end Go.Proofs.YthcjikpabpgpfaaGreat
namespace Go.Proofs.YthcjikpabpgpfaaGreat
open Go.RowKit Go.Maps Go.WideMaps
section
variable {w0 w w2:World} {r b:Nat} {at_ before behind:List Int} {st:List (Nat×Nat)} {va vb vc vs v':Value} {x:Int}
theorem hold_push {base:Nat} {va v u:Value} {i:Nat} {e:TypeId} {size m:Nat} {xs:List Value} (hg:w.grownBy w2 va.ownBlock) (hv:w.ownsRow base e size v m xs) (hne:∀ g,v.ownBlock=some g→va.ownBlock≠some g) (hnr:v.ownBlock≠some r):(w2.setCell ⟨r,i,none⟩ u).ownsRow base e size v m xs:=
 ownsRow_block hv fun g e=>by
  rw [heap_setCell_other _ _ _ (fun e2=>hnr (by rw [e,e2]))]
  exact hg.block g (hv.lt g e).2 (fun e2=>hne g e e2.symm)
theorem map_snoc (l:List Int) (x:Int):l.map i64V++[.int .i64 x]=(l++[x]).map i64V:=by rw [List.map_append];rfl
theorem IsRow.pushAt (h:IsRow w0 w r b at_ before behind st va vb vc vs) (hown:w2.ownsRow w0.heap.size 3 1 v' (at_.length+1) (at_.map i64V++[.int .i64 x])) (hg:w.grownBy w2 va.ownBlock) (hloc:v'.ownBlock=va.ownBlock∨v'.ownBlock=some w.heap.size) (hx:fits64 x) (hl:at_.length < 1048576):
  IsRow w0 (w2.setCell ⟨r,1,none⟩ v') r b (at_++[x]) before behind st v' vb vc vs:=by
 have hnr:va.ownBlock≠some r:=own_blk_ne h.atR h.blk (by decide)
 have hblk2:Blk w2 r 130 #[at0 b,va,vb,vc,vs]:=h.blk.grown hg (fun e=>hnr e.symm)
 have new:∀ {e:TypeId} {size m:Nat} {v:Value} {xs:List Value},w.ownsRow w0.heap.size e size v m xs→(∀ g,va.ownBlock=some g→v.ownBlock≠some g)→∀ g,v'.ownBlock=some g→v.ownBlock≠some g:=fun hv hne g hg'=>by
  rcases hloc with e | e
  ·exact hne g (e ▸ hg')
  ·rw [e] at hg'
   cases hg'
   exact fun e2=>by have:=(hv.lt _ e2).2;omega
 exact {
  blk:=by have:=hblk2.set_ 1 v';simpa using this
  new:=h.new
  below:=(h.below.grown hg h.below.size (fun k e=>(h.atR.lt k e).1)).setCell h.new _
  atR:=by
   rw [List.length_append,List.length_singleton,← map_snoc]
   exact ownsRow_block hown fun g e=>heap_setCell_other _ _ _ fun e2=>own_blk_ne hown hblk2 (by decide) (by rw [e,e2])
  befR:=hold_push hg h.befR (fun g e e2=>h.nab g e2 e) (own_blk_ne h.befR h.blk (by decide))
  behR:=hold_push hg h.behR (fun g e e2=>h.nac g e2 e) (own_blk_ne h.behR h.blk (by decide))
  stR:=hold_push hg h.stR (own_row_ne h.stR h.atR (by decide)) (own_blk_ne h.stR h.blk (by decide))
  nab:=new h.befR h.nab
  nac:=new h.behR h.nac
  nbc:=h.nbc
  fits:=⟨fun y hy=>by
   rcases List.mem_append.1 hy with h1 | h1
   ·exact h.fits.1 y h1
   ·rw [List.mem_singleton.1 h1];exact hx,h.fits.2⟩
  small:=⟨by rw [List.length_append,List.length_singleton];omega,h.small.2⟩
  stF:=h.stF }
theorem IsRow.pushBef (h:IsRow w0 w r b at_ before behind st va vb vc vs) (hown:w2.ownsRow w0.heap.size 3 1 v' (before.length+1) (before.map i64V++[.int .i64 x])) (hg:w.grownBy w2 vb.ownBlock) (hloc:v'.ownBlock=vb.ownBlock∨v'.ownBlock=some w.heap.size) (hx:fits64 x) (hl:before.length < 1048576):
  IsRow w0 (w2.setCell ⟨r,2,none⟩ v') r b at_ (before++[x]) behind st va v' vc vs:=by
 have hnr:vb.ownBlock≠some r:=own_blk_ne h.befR h.blk (by decide)
 have hblk2:Blk w2 r 130 #[at0 b,va,vb,vc,vs]:=h.blk.grown hg (fun e=>hnr e.symm)
 have new:∀ {e:TypeId} {size m:Nat} {v:Value} {xs:List Value},w.ownsRow w0.heap.size e size v m xs→(∀ g,vb.ownBlock=some g→v.ownBlock≠some g)→∀ g,v'.ownBlock=some g→v.ownBlock≠some g:=fun hv hne g hg'=>by
  rcases hloc with e | e
  ·exact hne g (e ▸ hg')
  ·rw [e] at hg'
   cases hg'
   exact fun e2=>by have:=(hv.lt _ e2).2;omega
 exact {
  blk:=by have:=hblk2.set_ 2 v';simpa using this
  new:=h.new
  below:=(h.below.grown hg h.below.size (fun k e=>(h.befR.lt k e).1)).setCell h.new _
  atR:=hold_push hg h.atR (fun g e=>h.nab g e) (own_blk_ne h.atR h.blk (by decide))
  befR:=by
   rw [List.length_append,List.length_singleton,← map_snoc]
   exact ownsRow_block hown fun g e=>heap_setCell_other _ _ _ fun e2=>own_blk_ne hown hblk2 (by decide) (by rw [e,e2])
  behR:=hold_push hg h.behR (fun g e e2=>h.nbc g e2 e) (own_blk_ne h.behR h.blk (by decide))
  stR:=hold_push hg h.stR (own_row_ne h.stR h.befR (by decide)) (own_blk_ne h.stR h.blk (by decide))
  nab:=fun g e e2=>new h.atR (fun g e3 e4=>h.nab g e4 e3) g e2 e
  nac:=h.nac
  nbc:=new h.behR h.nbc
  fits:=⟨h.fits.1,fun y hy=>by
   rcases List.mem_append.1 hy with h1 | h1
   ·exact h.fits.2.1 y h1
   ·rw [List.mem_singleton.1 h1];exact hx,h.fits.2.2⟩
  small:=⟨h.small.1,by rw [List.length_append,List.length_singleton];omega,h.small.2.2⟩
  stF:=h.stF }
theorem IsRow.pushBeh (h:IsRow w0 w r b at_ before behind st va vb vc vs) (hown:w2.ownsRow w0.heap.size 3 1 v' (behind.length+1) (behind.map i64V++[.int .i64 x])) (hg:w.grownBy w2 vc.ownBlock) (hloc:v'.ownBlock=vc.ownBlock∨v'.ownBlock=some w.heap.size) (hx:fits64 x) (hl:behind.length < 1048576):
  IsRow w0 (w2.setCell ⟨r,3,none⟩ v') r b at_ before (behind++[x]) st va vb v' vs:=by
 have hnr:vc.ownBlock≠some r:=own_blk_ne h.behR h.blk (by decide)
 have hblk2:Blk w2 r 130 #[at0 b,va,vb,vc,vs]:=h.blk.grown hg (fun e=>hnr e.symm)
 have new:∀ {e:TypeId} {size m:Nat} {v:Value} {xs:List Value},w.ownsRow w0.heap.size e size v m xs→(∀ g,vc.ownBlock=some g→v.ownBlock≠some g)→∀ g,v'.ownBlock=some g→v.ownBlock≠some g:=fun hv hne g hg'=>by
  rcases hloc with e | e
  ·exact hne g (e ▸ hg')
  ·rw [e] at hg'
   cases hg'
   exact fun e2=>by have:=(hv.lt _ e2).2;omega
 exact {
  blk:=by have:=hblk2.set_ 3 v';simpa using this
  new:=h.new
  below:=(h.below.grown hg h.below.size (fun k e=>(h.behR.lt k e).1)).setCell h.new _
  atR:=hold_push hg h.atR (fun g e=>h.nac g e) (own_blk_ne h.atR h.blk (by decide))
  befR:=hold_push hg h.befR (fun g e=>h.nbc g e) (own_blk_ne h.befR h.blk (by decide))
  behR:=by
   rw [List.length_append,List.length_singleton,← map_snoc]
   exact ownsRow_block hown fun g e=>heap_setCell_other _ _ _ fun e2=>own_blk_ne hown hblk2 (by decide) (by rw [e,e2])
  stR:=hold_push hg h.stR (own_row_ne h.stR h.behR (by decide)) (own_blk_ne h.stR h.blk (by decide))
  nab:=h.nab
  nac:=fun g e e2=>new h.atR (fun g e3 e4=>h.nac g e4 e3) g e2 e
  nbc:=fun g e e2=>new h.befR (fun g e3 e4=>h.nbc g e4 e3) g e2 e
  fits:=⟨h.fits.1,h.fits.2.1,fun y hy=>by
   rcases List.mem_append.1 hy with h1 | h1
   ·exact h.fits.2.2 y h1
   ·rw [List.mem_singleton.1 h1];exact hx⟩
  small:=⟨h.small.1,h.small.2.1,by rw [List.length_append,List.length_singleton];omega,h.small.2.2.2⟩
  stF:=h.stF }
theorem IsRow.sorted {st':List (Nat×Nat)} (h:IsRow w0 w r b at_ before behind st va vb vc vs) (hown:w2.ownsRow w0.heap.size 201 2 vs st'.length (st'.flatMap stV)) (hg:w.grownBy w2 vs.ownBlock) (hl:st'.length≤1048576) (hF:∀ s∈st',s.1≤1048576∧s.2≤1048576):
  IsRow w0 w2 r b at_ before behind st' va vb vc vs:=by
 have oth:∀ {v:Value} {l:List Int},w.ownsRow w0.heap.size 3 1 v l.length (l.map i64V)→w2.ownsRow w0.heap.size 3 1 v l.length (l.map i64V):=fun hv=>
  ownsRow_block hv fun g e=>hg.block g (hv.lt g e).2 (fun e2=>own_row_ne hv h.stR (by decide) g e e2.symm)
 exact {
  blk:=h.blk.grown hg (fun e=>own_blk_ne h.stR h.blk (by decide) e.symm)
  new:=h.new
  below:=h.below.grown hg h.below.size (fun k e=>(h.stR.lt k e).1)
  atR:=oth h.atR
  befR:=oth h.befR
  behR:=oth h.behR
  stR:=hown
  nab:=h.nab
  nac:=h.nac
  nbc:=h.nbc
  fits:=h.fits
  small:=⟨h.small.1,h.small.2.1,h.small.2.2.1,hl⟩
  stF:=hF }
end
end Go.Proofs.YthcjikpabpgpfaaGreat
namespace Go.Proofs.YthcjikpabpgpfaaGreat
open Go.RowKit Go.Maps Go.WideMaps
theorem one_cell_at' {w:World} {t:TypeId} {x:Value} {H:Nat} (hH:w.heap.size=H):∀ (j:Nat) (u:Value),[x][j]?=some u→(w.alloc (.cells #[x] t)).cell? ((⟨H,0,none⟩:Addr).add j)=some u:=hH ▸ one_cell_at
def ENumsOut (w:World) (l:List Int) (e:Ending) (w':World):Prop:=∃ v,e=.returned v∧w'.ownsRow w.heap.size 3 1 v l.length (l.map i64V)∧Below w.heap.size w w'
theorem list_any (w0 w:World) (r b:Nat) {n:Nat} {l:List Int} {qs:List Nat} {at_ before behind:List Int} {st:List (Nat×Nat)} (hR:Row w0 w r b at_ before behind st) (hO:RowOK n l qs at_ before behind) (hn:n≤1000000):
  Calls Tryz.prog 63 #[at0 r] w (ENumsOut w l):=by
 obtain ⟨i0,hi,hz0,hz1,hz2⟩:=info_parts intInfo1
 obtain ⟨va,vb,vc,vs,hR⟩:=hR
 obtain ⟨Aa,ca,rfl⟩:=own_slice hR.atR
 have HR:=Lib.hid hR
 have HO:=Lib.hid hO
 have hlm:l.length≤n:=by
  have:∀ (j p:Nat),qs[j]?=some p→j≤p:=by
   intro j
   induction j with
   | zero=>intro p _;omega
   | succ j ih=>
    intro p hp
    obtain ⟨q,hq⟩:=hO.get (i:=j) (by have:=(List.getElem?_eq_some_iff.1 hp).1;rw [hO.len] at this;omega)
    have h1:=ih q hq
    have h2:=hO.inc j (j+1) q p (by omega) hq hp
    omega
  exact this _ _ hO.last
 have hAL:=hO.atL
 have HAL:=Lib.hid hAL
 have HF0:=Lib.hid hO.first
 clear hR hO hAL
 unfold at0
 go_enter Tryz.func63,Tryz.ntmps63
 go_wp2_with fail
 go_loopw [3,4] (fun v i wr=>∃ j q,j≤l.length∧qs[j]?=some q∧i=.int .i64 (q:Nat)∧wr.ownsRow w.heap.size 3 1 v j ((l.take j).map i64V)∧Below w.heap.size w wr) (fun _ i _=>n - (intOf i).toNat)
 case atStart=>exact ⟨0,0,Nat.zero_le _,HF0.out,rfl,by rw [List.take_zero];exact World.ownsRow_nil _ _ _ _,Below.refl _ _⟩
 case round=>
  obtain ⟨j,q,hj,hq,rfl,hown,hB⟩:=hrel
  have hRr:=HR.out.then hB
  obtain ⟨_,g1,_,g3,_⟩:=hRr.cl
  rw [HAL.out] at g1
  rcases Nat.lt_or_ge j l.length with hlt | hge
  ·obtain ⟨q2,hq2⟩:=HO.out.get (i:=j+1) (by omega)
   have hqn:q < n:=HO.out.lt hlt hq
   have hq2n:=HO.out.le hq2
   have hqq:=HO.out.inc j (j+1) q q2 (by omega) hq hq2
   have hx:l[j]?=some (l[j]'hlt):=List.getElem?_eq_getElem hlt
   obtain ⟨x,hxe⟩:∃ x,x=l[j]'hlt:=⟨_,rfl⟩
   rw [← hxe] at hx
   have htk:(l.take (j+1)).map i64V=(l.take j).map i64V++[.int .i64 x]:=by rw [List.take_add_one,hx,List.map_append];rfl
   obtain ⟨ada,c2,e1,x1,_⟩:=own_int_at hRr.atR (HO.out.tok j x q hx hq)
   simp only [Value.slice.injEq,true_and] at e1
   obtain ⟨rfl,rfl⟩:=e1
   obtain ⟨adc,c3,rfl,x3,_⟩:=own_int_at hRr.behR (HO.out.beh j q q2 hq hq2)
   have hbl:behind.length=n:=HO.out.behL
   have HBL:=Lib.hid hbl
   have HBQ:=Lib.hid (HO.out.beh j q q2 hq hq2)
   rw [hbl] at g3
   have hq0:(0:Int)≤(q:Int):=by omega
   have hqN:(q:Int) < (n:Int):=by omega
   have HOWN:=Lib.hid hown
   have HB:=Lib.hid hB
   have HTK:=Lib.hid htk
   have HQ2:=Lib.hid hq2
   have HRR:=Lib.hid hRr
   have HX3:=Lib.hid x3
   have HG3:=Lib.hid g3
   clear hown hB htk hx hxe hbl hRr x3 g3 hq2
   go_wp2_with (at_builtin;refine wpList_append_own_at _ rfl _ _ 52 rfl w.heap.size 3 i0 (.int .i64 0) 1 8 Tryz.underlying52 hi hz0 hz1 hz2 rfl (by decide) _ j _ rfl (HOWN.out.alloc _) ⟨wr.heap.size,0,none⟩ 1 1 [.int .i64 x] rfl rfl one_cell_at (by simp [Value.oneCell']) (by unfold maxLen;omega) (by omega) (by simp;have:=HB.out.size;omega) ?_;intro v' w2 hown' hg2 hnil hloc;obtain ⟨A2,c2,hv⟩:=own_slice hown';rw [hv];clear hnil hloc;have HV:=Lib.hid hv;clear hv;have hb2:Below w.heap.size wr w2:=(((Below.refl _ wr).alloc HB.out.size _).grown hg2 (by simp;have:=HB.out.size;omega) (fun k e=>(HOWN.out.lt k e).1));have HB2:=Lib.hid (HB.out.trans hb2);have hr2:=HR.out.then HB2.out;have f3:=hr2.cl.2.2.2.1;rw [HBL.out] at f3;have y3:=(own_int_cell hr2.behR HBQ.out).1;have HOWN2:=Lib.hid hown';clear hown' hg2 hb2 hr2)
   go_roundw
   case rel=>exact ⟨j+1,q2,by omega,HQ2.out,rfl,by rw [HTK.out,← HV.out];exact HOWN2.out,HB2.out⟩
   case measure=>simp [intOf];omega
  ·obtain rfl:j=l.length:=by omega
   obtain rfl:q=n:=by have:=HO.out.last;rw [hq] at this;exact Option.some.inj this
   obtain ⟨A3,c3,rfl⟩:=own_slice hown
   rw [List.take_length] at hown
   have HOWN:=Lib.hid hown
   have HB:=Lib.hid hB
   clear hown hB hRr g3
   go_wp2
   go_ret
   exact ⟨_,rfl,HOWN.out,HB.out⟩
end Go.Proofs.YthcjikpabpgpfaaGreat
