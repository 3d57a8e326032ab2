import Derived.Test.YthcjikpabpgpfaaGreatZp0
import Derived.Test.YthcjikpabpgpfaaGreatZp28
import Derived.Test.YthcjikpabpgpfaaGreatZp30
import Derived.Test.YthcjikpabpgpfaaGreatZp29
import Derived.Test.YthcjikpabpgpfaaGreatZp9
import Derived.Test.YthcjikpabpgpfaaGreatZp1
import Derived.Test.YthcjikpabpgpfaaGreatZp7
import Derived.StillTailTactics
import Derived.Sort.Grow
import Derived.Shelf.SlSortCmp.Insertion
import Derived.Lib.ConvBytes
set_option linter.unusedSimpArgs false
set_option maxHeartbeats 16000000
set_option maxRecDepth 100000
namespace Go.Proofs.YthcjikpabpgpfaaGreat
open Go.RowKit Go.Maps Go.WideMaps
theorem RowsSee.from_ {w:World} {A:Option Addr} {n c:Nat} {L:List Nm} (h:RowsSee w A n L) (hc:n≤c) (p:Nat) (hp:p≤n):RowsSee w (cutAddr A p c) (n - p) (L.drop p) where
 len:=by rw [List.length_drop,h.len]
 fit:=Nat.le_trans (Nat.sub_le _ _) h.fit
 at_:=fun i x hx=>by
  rw [List.getElem?_drop] at hx
  have hl:=(List.getElem?_eq_some_iff.1 hx).1
  rw [h.len] at hl
  obtain ⟨ad,C,c',e1,e2,e3,e4⟩:=h.at_ (p+i) x hx
  have hcp:¬ c=p:=by omega
  refine ⟨ad.add p,C,c',by unfold cutAddr;rw [if_neg hcp,e1];rfl,?_,e3,e4⟩
  have:(ad.add p).add i=ad.add (p+i):=Go.Deep.add_add ad p i
  rw [this]
  exact e2
theorem rows_to8 (w:World) (A:Option Addr) (n c p:Nat) (h:p≤c):(Instr.slice 27 (.slice A n c) none (some (.int .u8 p)) none).run Tryz.prog w=.ok (.slice A p c) w:=by
 obtain ⟨i0,hi,hz0,hz1,hz2⟩:=info_parts rowInfo
 rw [run_slice_h (P:=Tryz.prog) (w:=w) 27 A n c Tryz.underlying27 .u8 p (by omega) (by omega)]
 have he:Tryz.prog.elem 27=24:=by kernel_rfl
 rw [he]
 have hs:(sizeOf 24).run Tryz.prog w=Result.ok i0.size w:=by
  rw [run_sizeOf w hi]
  unfold Program.cellsOf
  rw [hi]
  rfl
 rw [hs]
 simp [Result.andThen,sliced,Addr.add]
theorem rows_from (w:World) (A:Option Addr) (n c p:Nat) (hp:p≤n):(Instr.slice 27 (.slice A n c) (some (.int .i64 p)) none none).run Tryz.prog w=.ok (.slice (cutAddr A p c) (n - p) (c - p)) w:=by
 obtain ⟨i0,hi,hz0,hz1,hz2⟩:=info_parts rowInfo
 have hs:(sizeOf (Tryz.prog.elem 27)).run Tryz.prog w=.ok 1 w:=by
  rw [show Tryz.prog.elem 27=24 by kernel_rfl,run_sizeOf w hi]
  unfold Program.cellsOf
  rw [hi]
  simp [hz1]
 rw [run_slice_l (P:=Tryz.prog) (w:=w) 27 A n c Tryz.underlying27 .i64 p (by omega) (by omega),hs]
 simp [Result.andThen,sliced,cutAddr]
theorem ownRows_see {w:World} {base:Nat} {A:Option Addr} {n c:Nat} {svs:List Value} {L:List Nm} (h:w.ownsRow base 24 1 (.slice A n c) n svs) (hl:L.length=n) (h63:n≤maxLen) (hv:∀ (i:Nat) (sv:Value) (x:Nm),svs[i]?=some sv→L[i]?=some x→Holds1 w sv x):RowsSee w A n L∧n≤c:=by
 obtain ⟨A',c',e1,e2⟩:=own_cap h
 injection e1 with ea en ec
 subst ea ec
 refine ⟨⟨hl,h63,fun i x hx=>?_⟩,e2⟩
 have hsl:svs.length=n:=by have:=h.1;simpa using this
 have hi:=(List.getElem?_eq_some_iff.1 hx).1
 have hs:svs[i]?=some (svs[i]'(by omega)):=List.getElem?_eq_getElem _
 obtain ⟨C,cc,h3,h4,h5⟩:=hv i _ x hs hx
 have hsrc:=src_of_own h
 cases A with
 | none=>have:=hsrc.nil rfl;omega
 | some ad=>
  have:=hsrc.cells ad rfl i _ hs
  rw [h3] at this
  exact ⟨ad,C,cc,rfl,this,h4,h5⟩
theorem mgCells_len (L:List Mg):(L.flatMap mgCells).length=L.length * 3:=by
 induction L with
 | nil=>rfl
 | cons a r ih=>rw [List.flatMap_cons,List.length_append,ih,List.length_cons];simp [mgCells];omega
theorem mgCells_one (L:List Mg):∀ u∈L.flatMap mgCells,u.oneCell'=true:=by
 intro u hu
 obtain ⟨p,_,hp⟩:=List.mem_flatMap.1 hu
 simp only [mgCells,List.mem_cons,List.not_mem_nil,or_false] at hp
 rcases hp with rfl | rfl | rfl <;> rfl
theorem MgSee.src {w:World} {B:Option Addr} {n:Nat} {M:List Mg} (h:MgSee w B n M):SrcN w B n 3 (M.flatMap mgCells) where
 len:=by rw [mgCells_len,h.len]
 cells:=fun ad e q u hu=>by
  obtain ⟨m,hm,hmu⟩:=flat_inv (s:=3) (by omega) (fun _=>rfl) M q u hu
  obtain ⟨ad',e1,c0,c1,c2⟩:=h.at_ (q / 3) m hm
  rw [e] at e1
  cases e1
  have e2:q / 3 * 3+q % 3=q:=by omega
  have h2:q % 3 < 3:=Nat.mod_lt _ (by omega)
  have h3:q % 3=0∨q % 3=1∨q % 3=2:=by omega
  rw [← e2]
  rcases h3 with h3 | h3 | h3 <;> rw [h3] at hmu ⊢ <;> simp [mgCells] at hmu <;> rw [← hmu]
  ·exact c0
  ·rw [add_pos' _ _ _ (by omega)];exact c1
  ·rw [add_pos' _ _ _ (by omega)];exact c2
 nil:=fun e=>by
  rcases Nat.eq_zero_or_pos n with h0 | h0
  ·exact h0
  ·obtain ⟨ad',e1,_⟩:=h.at_ 0 _ (List.getElem?_eq_getElem (by rw [h.len];exact h0))
   rw [e] at e1
   cases e1
theorem MgSee.own {w:World} {base:Nat} {B:Option Addr} {n c:Nat} {M:List Mg} (h:w.ownsRow base 88 3 (.slice B n c) n (M.flatMap mgCells)) (hl:M.length=n) (h63:n≤maxLen) (hf:∀ m∈M,mgFits m):MgSee w B n M∧n≤c:=by
 have hc:n≤c:=by
  rcases h.2 with ⟨h1,h0⟩ | ⟨g,cap,cur,h1,_,_,hc,_⟩
  ·omega
  ·injection h1 with _ _ h3
   omega
 refine ⟨⟨hl,h63,fun i m hi=>?_,fun m hm=>hf m hm⟩,hc⟩
 have hil:=(List.getElem?_eq_some_iff.1 hi).1
 cases B with
 | none=>
  rcases h.2 with ⟨h1,h0⟩ | ⟨g,cap,cur,h1,_⟩
  ·omega
  ·cases h1
 | some ad=>
  have hz:ad=⟨ad.block,0,none⟩:=by
   rcases h.2 with ⟨h1,_⟩ | ⟨g,cap,cur,h1,_⟩
   ·cases h1
   ·cases h1;rfl
  have hcs:=fun j u (hj:(mgCells m)[j]?=some u)=>h.cells (g:=ad.block) rfl (i * 3+j) u (flat_at (s:=3) (fun _=>rfl) M i j m u hi hj)
  have c0:=hcs 0 _ rfl
  have c1:=hcs 1 _ rfl
  have c2:=hcs 2 _ rfl
  rw [addr_add] at c0 c1 c2
  refine ⟨ad,rfl,?_,?_,?_⟩
  ·rw [hz,addr_add];exact c0
  ·rw [hz,addr_add];exact c1
  ·rw [hz,addr_add];exact c2
end Go.Proofs.YthcjikpabpgpfaaGreat
namespace Go.Proofs.YthcjikpabpgpfaaGreat
open Go.RowKit Go.Maps Go.WideMaps Go.Sort
def cmpI (x y:Int):Int:=if x < y then -1 else if y < x then 1 else 0
theorem isNaN_any (w:World) (x:Int):Calls Tryz.prog 186 #[.int .i64 x] w fun e w'=>e=.returned (.bool false)∧w'=w:=by
 go_enter Tryz.func186,Tryz.ntmps186
 go_wp2
 go_ret
 exact ⟨rfl,rfl⟩
theorem compare_any (w:World) (x y:Int):Calls Tryz.prog 156 #[.int .i64 x,.int .i64 y] w fun e w'=>e=.returned (.int .i64 (cmpI x y))∧w'=w:=by
 unfold cmpI
 by_cases h1:x < y
 ·rw [if_pos h1]
  go_enter Tryz.func156,Tryz.ntmps156
  go_wp2_with (go_at_call 186;refine (isNaN_any _ _).mono ?_;rintro e w' ⟨rfl,rfl⟩)
  go_ret
  exact ⟨rfl,rfl⟩
 ·by_cases h2:y < x
  ·rw [if_neg h1,if_pos h2]
   go_enter Tryz.func156,Tryz.ntmps156
   go_wp2_with (go_at_call 186;refine (isNaN_any _ _).mono ?_;rintro e w' ⟨rfl,rfl⟩)
   go_ret
   exact ⟨rfl,rfl⟩
  ·rw [if_neg h1,if_neg h2]
   go_enter Tryz.func156,Tryz.ntmps156
   go_wp2_with (go_at_call 186;refine (isNaN_any _ _).mono ?_;rintro e w' ⟨rfl,rfl⟩)
   go_ret
   exact ⟨rfl,rfl⟩
theorem compare_is (w:World) (x y:Int) {r:Int} (h:cmpI x y=r):Calls Tryz.prog 156 #[.int .i64 x,.int .i64 y] w fun e w'=>e=.returned (.int .i64 r)∧w'=w:=by
 have:=compare_any w x y
 rw [h] at this
 exact this
def orI (x y:Int):Int:=if x=0 then y else x
theorem or_any (w:World) (b:Nat) (x y:Int) (h0:w.cell? ⟨b,0,none⟩=some (.int .i64 x)) (h1:w.cell? ⟨b,1,none⟩=some (.int .i64 y)):
  Calls Tryz.prog 155 #[.slice (some ⟨b,0,none⟩) 2 2] w fun e w'=>e=.returned (.int .i64 (orI x y))∧w'=w:=by
 unfold orI
 by_cases hx:x=0
 ·by_cases hy:y=0
  ·subst hx;subst hy
   go_enter Tryz.func155,Tryz.ntmps155
   go_wp2
   go_loop [8] (fun i=>∃ k:Nat,k≤2∧i=.int .i64 k) (fun i=>2 - (intOf i).toNat)
   case atStart=>exact ⟨0,by omega,rfl⟩
   case round=>
    obtain ⟨k,hk,rfl⟩:=hrel
    obtain rfl | rfl | rfl:k=0∨k=1∨k=2:=by omega
    ·go_wp2
     go_round
     case rel=>exact ⟨1,by omega,rfl⟩
     case measure=>simp [intOf]
    ·go_wp2
     go_round
     case rel=>exact ⟨2,by omega,rfl⟩
     case measure=>simp [intOf]
    ·go_wp2
     go_ret
     exact ⟨rfl,rfl⟩
  ·subst hx
   go_enter Tryz.func155,Tryz.ntmps155
   go_wp2
   go_loop [8] (fun i=>∃ k:Nat,k≤1∧i=.int .i64 k) (fun i=>2 - (intOf i).toNat)
   case atStart=>exact ⟨0,by omega,rfl⟩
   case round=>
    obtain ⟨k,hk,rfl⟩:=hrel
    obtain rfl | rfl:k=0∨k=1:=by omega
    ·go_wp2
     go_round
     case rel=>exact ⟨1,by omega,rfl⟩
     case measure=>simp [intOf]
    ·go_wp2
     go_ret
     exact ⟨rfl,rfl⟩
 ·rw [if_neg hx]
  go_enter Tryz.func155,Tryz.ntmps155
  go_wp2
  go_loop [8] (fun i=>i=.int .i64 0) (fun i=>2 - (intOf i).toNat)
  case atStart=>exact rfl
  case round=>
   obtain rfl:=hrel
   go_wp2
   go_ret
   exact ⟨rfl,rfl⟩
theorem alloc3 (w:World) (a b c:Obj):((w.alloc a).alloc b).drew.alloc c=grow (w.drewN 1) (#[a]++#[b]++#[c]):=by
 show ((w.drew.alloc a).alloc b).alloc c=_
 rw [alloc_eq_grow,alloc_eq_grow,alloc_eq_grow,grow_grow,grow_grow]
 rfl
def stV (s:Nat×Nat):List Value:=[.int .i64 s.1,.int .i64 s.2]
def dwn (s t:Nat×Nat):Int:=orI (cmpI t.1 s.1) (cmpI t.2 s.2)
theorem dwn_neg (s t:Nat×Nat):dwn s t < 0↔gtS s t:=by
 unfold dwn orI cmpI gtS
 split <;> split at * <;> (try split at *) <;> (try split) <;> (try split) <;> omega
theorem dwn_fits (s t:Nat×Nat):-1≤dwn s t∧dwn s t≤1:=by
 unfold dwn orI cmpI
 split <;> split at * <;> (try split at *) <;> (try split) <;> (try split) <;> omega
theorem downwards_any (w:World) (s t:Nat×Nat):
  Calls Tryz.prog 115 #[.agg #[.int .i64 s.1,.int .i64 s.2],.agg #[.int .i64 t.1,.int .i64 t.2]] w fun e w'=>e=.returned (.int .i64 (dwn s t))∧∃ q os,w'=grow (w.drewN q) os:=by
 obtain ⟨a,b⟩:=s
 obtain ⟨c,d⟩:=t
 unfold dwn
 obtain ⟨x,hx⟩:∃ x,x=cmpI (c:Int) (a:Int):=⟨_,rfl⟩
 obtain ⟨y,hy⟩:∃ y,y=cmpI (d:Int) (b:Int):=⟨_,rfl⟩
 simp only [← hx,← hy]
 have HX:=Lib.hid hx
 have HY:=Lib.hid hy
 clear hx hy
 go_enter Tryz.func115,Tryz.ntmps115
 go_wp2_with fail
 obtain ⟨W,hW⟩:∃ W,W=(w.alloc (.cells #[.int .i64 a,.int .i64 b] 201)).alloc (.cells #[.int .i64 c,.int .i64 d] 201):=⟨_,rfl⟩
 rw [← hW]
 have B1:Blk W w.heap.size 201 #[.int .i64 a,.int .i64 b]:=by rw [hW];exact (Blk.new w _ _).alloc _
 have B2:Blk W (w.heap.size+1) 201 #[.int .i64 c,.int .i64 d]:=by
  rw [hW]
  have:=Blk.new (w.alloc (.cells #[.int .i64 a,.int .i64 b] 201)) 201 #[.int .i64 c,.int .i64 d]
  simpa using this
 have g1:=B1.cell 0
 have g2:=B1.cell 1
 have g3:=B2.cell 0
 have g4:=B2.cell 1
 simp only [lz0,lz1,lz2] at g1 g2 g3 g4
 have HW:=Lib.hid hW
 clear hW B1 B2
 refine wp_region_still_tail 10 (by kernel_rfl) (by kernel_rfl) ?_
 simp only [List.take_succ_cons,List.take_zero,List.drop_succ_cons,List.drop_zero]
 repeat still_step
 still_call (compare_is _ _ _ HX.out.symm)
 repeat still_step
 still_call (compare_is _ _ _ HY.out.symm)
 repeat still_step
 refine wpStill_nil ?_
 change wpList _ _ _ _ _ W.drew
 have h0:((W.drew).alloc (.cells #[.int .i64 x,.int .i64 y] 3)).cell? ⟨W.heap.size,0,none⟩=some (.int .i64 x):=by
  have:=(Blk.new W.drew 3 #[.int .i64 x,.int .i64 y]).cell 0
  simpa using this
 have h1:((W.drew).alloc (.cells #[.int .i64 x,.int .i64 y] 3)).cell? ⟨W.heap.size,1,none⟩=some (.int .i64 y):=by
  have:=(Blk.new W.drew 3 #[.int .i64 x,.int .i64 y]).cell 1
  simpa using this
 have H0:=Lib.hid h0
 have H1:=Lib.hid h1
 clear h0 h1 g1 g2 g3 g4
 go_wp2_with (go_at_call 155;refine (or_any _ _ _ _ H0.out H1.out).mono ?_;rintro e w' ⟨rfl,rfl⟩)
 go_ret
 exact ⟨rfl,1,_,by rw [HW.out];exact alloc3 w _ _ _⟩
end Go.Proofs.YthcjikpabpgpfaaGreat
namespace Go.Proofs.YthcjikpabpgpfaaGreat
open Go.RowKit Go.Maps Go.WideMaps
def rkInt (M:List Mg) (a b:Int):Int:=match rkOf M a b with | some k=>(k:Int) | none=>0
theorem rkOf_snoc {M:List Mg} {m:Mg} (h:mergedB M m.a m.b=false) (a b:Int):rkOf (M++[m]) a b=if m.a=a∧m.b=b then some M.length else rkOf M a b:=by
 unfold rkOf
 rw [List.findIdx?_append]
 split
 ·rename_i e
  obtain ⟨rfl,rfl⟩:=e
  have:=rkOf_none.2 h
  unfold rkOf at this
  rw [this]
  simp
 ·rename_i e
  have:([m].findIdx? fun m=>decide (m.a=a∧m.b=b))=none:=by simp [e]
  rw [this]
  cases M.findIdx? fun m=>decide (m.a=a∧m.b=b) <;> rfl
structure RankMap (D:DataW Unit) (M:List Mg):Prop where
 isMap:IsMap D
 has:∀ a b,fits64 a→fits64 b→Maps.has D (pk a b)=(rkOf M a b).isSome
 at_:∀ a b,fits64 a→fits64 b→D.atKey (pk a b) (.lit (.int .i64 0))=.lit (.int .i64 (rkInt M a b))
theorem RankMap.nil:RankMap (.map []) []:=⟨isMap_empty,fun _ _ _ _=>rfl,fun _ _ _ _=>rfl⟩
theorem RankMap.put {D:DataW Unit} {M:List Mg} (h:RankMap D M) {m:Mg} (hm:mergedB M m.a m.b=false) (ha:fits64 m.a) (hb:fits64 m.b):RankMap (D.put (pk m.a m.b) (.lit (.int .i64 (M.length:Nat)))) (M++[m]):=by
 refine ⟨h.isMap.put _ _,fun a b fa fb=>?_,fun a b fa fb=>?_⟩
 ·rw [rkOf_snoc hm]
  by_cases e:pk a b=pk m.a m.b
  ·obtain ⟨rfl,rfl⟩:=pk_inj fa fb ha hb e
   rw [has_put_same h.isMap (show WideAt.IsKeyLit (pk m.a m.b) from trivial),if_pos ⟨rfl,rfl⟩]
   rfl
  ·rw [has_put_other e,h.has a b fa fb,if_neg fun e2=>e (by rw [e2.1,e2.2])]
 ·unfold rkInt
  rw [rkOf_snoc hm]
  by_cases e:pk a b=pk m.a m.b
  ·obtain ⟨rfl,rfl⟩:=pk_inj fa fb ha hb e
   rw [atKey_put_same h.isMap (show WideAt.IsKeyLit (pk m.a m.b) from trivial),if_pos ⟨rfl,rfl⟩]
  ·rw [atKey_put_other e,h.at_ a b fa fb,if_neg fun e2=>e (by rw [e2.1,e2.2])]
   rfl
abbrev ranksAt (w:World) (b n:Nat) (D:DataW Unit):Prop:=w.ownsMap Tryz.prog 73 (plainElem Tryz.prog 3) b n D
theorem rank_look {w:World} {b n:Nat} {D:DataW Unit} {M:List Mg} (h:ranksAt w b n D) (hR:RankMap D M) {x y:Int} (hx:fits64 x) (hy:fits64 y):
  (Instr.lookup 89 (.map (some b)) (.agg #[.int .i64 x,.int .i64 y]) true).run Tryz.prog w=.ok (.tuple #[.int .i64 (rkInt M x y),.bool (rkOf M x y).isSome]) w:=by
 obtain ⟨v,ps,hrun,hv⟩:=h.look_ok pairLaw Tryz.underlying89 (intZero _) (plainElem_int Tryz.underlying3 (by decide)) (keyOf_pairs hx hy)
 obtain ⟨c,rfl,hc,_⟩:=plainElem_int_inv Tryz.underlying3 hv
 rw [hR.has x y hx hy] at hrun
 rw [hR.at_ x y hx hy] at hc
 simp only [Prod.mk.injEq,DataW.lit.injEq,Lit.int.injEq,true_and] at hc
 rw [hrun,hc.1]
structure IsCoder (w:World) (b:Nat) (V:Voc) (A B:Option Addr) (ca cb bp:Nat) (D:DataW Unit) (cs:Array Value):Prop where
 blk:Blk w b 92 cs
 c0:cs[0]?=some (.slice A V.tok.length ca)
 c1:cs[1]?=some (.slice B V.mer.length cb)
 cB:∀ c,c < 256→cs[2+c]?=some (.int .i64 (c:Nat))
 cM:cs[258]?=some (.map (some bp))
 tok:RowsSee w A V.tok.length V.tok
 mer:MgSee w B V.mer.length V.mer
 map:ranksAt w bp V.mer.length D
 isR:RankMap D V.mer
 mlt:bp < w.heap.size
def Coder (w:World) (b:Nat) (V:Voc):Prop:=∃ A B ca cb bp D cs,IsCoder w b V A B ca cb bp D cs
theorem IsCoder.below {w w':World} {b:Nat} {V:Voc} {A B:Option Addr} {ca cb bp:Nat} {D:DataW Unit} {cs:Array Value} (h:IsCoder w b V A B ca cb bp D cs) (hb:Below w.heap.size w w'):IsCoder w' b V A B ca cb bp D cs where
 blk:=h.blk.below hb h.blk.lt
 c0:=h.c0
 c1:=h.c1
 cB:=h.cB
 cM:=h.cM
 tok:=h.tok.below hb
 mer:=h.mer.below hb
 map:=ownsMap_block h.map (hb.block _ h.mlt)
 isR:=h.isR
 mlt:=Nat.lt_of_lt_of_le h.mlt hb.size
theorem Coder.below {w w':World} {b:Nat} {V:Voc} (h:Coder w b V) (hb:Below w.heap.size w w'):Coder w' b V:=by
 obtain ⟨A,B,ca,cb,bp,D,cs,h⟩:=h
 exact ⟨A,B,ca,cb,bp,D,cs,h.below hb⟩
structure IsRow (w0 w:World) (r b:Nat) (at_ before behind:List Int) (st:List (Nat×Nat)) (va vb vc vs:Value):Prop where
 blk:Blk w r 130 #[at0 b,va,vb,vc,vs]
 new:w0.heap.size≤r
 below:Below w0.heap.size w0 w
 atR:w.ownsRow w0.heap.size 3 1 va at_.length (at_.map i64V)
 befR:w.ownsRow w0.heap.size 3 1 vb before.length (before.map i64V)
 behR:w.ownsRow w0.heap.size 3 1 vc behind.length (behind.map i64V)
 stR:w.ownsRow w0.heap.size 201 2 vs st.length (st.flatMap stV)
 nab:∀ g,va.ownBlock=some g→vb.ownBlock≠some g
 nac:∀ g,va.ownBlock=some g→vc.ownBlock≠some g
 nbc:∀ g,vb.ownBlock=some g→vc.ownBlock≠some g
 fits:(∀ x∈at_,fits64 x)∧(∀ x∈before,fits64 x)∧∀ x∈behind,fits64 x
 small:at_.length≤1048576∧before.length≤1048576∧behind.length≤1048576∧st.length≤1048576
 stF:∀ s∈st,s.1≤1048576∧s.2≤1048576
def Row (w0 w:World) (r b:Nat) (at_ before behind:List Int) (st:List (Nat×Nat)):Prop:=∃ va vb vc vs,IsRow w0 w r b at_ before behind st va vb vc vs
theorem IsRow.then {w0 w w':World} {r b:Nat} {at_ before behind:List Int} {st:List (Nat×Nat)} {va vb vc vs:Value} (h:IsRow w0 w r b at_ before behind st va vb vc vs) (hb:Below w.heap.size w w'):IsRow w0 w' r b at_ before behind st va vb vc vs where
 blk:=h.blk.below hb h.blk.lt
 new:=h.new
 below:=below_then h.below hb h.below.size
 atR:=ownsRow_block h.atR fun g hg=>hb.block g (h.atR.lt g hg).2
 befR:=ownsRow_block h.befR fun g hg=>hb.block g (h.befR.lt g hg).2
 behR:=ownsRow_block h.behR fun g hg=>hb.block g (h.behR.lt g hg).2
 stR:=ownsRow_block h.stR fun g hg=>hb.block g (h.stR.lt g hg).2
 nab:=h.nab
 nac:=h.nac
 nbc:=h.nbc
 fits:=h.fits
 small:=h.small
 stF:=h.stF
inductive StepIs (M:List Mg) (at_ behind:List Int):Int→Option Nat→Prop where
 | neg:StepIs M at_ behind (-1) none
 | stop (p:Nat):behind[p]?=some (at_.length:Int)→StepIs M at_ behind p none
 | pair (p q:Nat) (a b:Int):behind[p]?=some (q:Int)→q < at_.length→at_[p]?=some a→at_[q]?=some b→StepIs M at_ behind p (rkOf M a b)
def StepOut (w:World) (place:Int) (o:Option Nat) (e:Ending) (w':World):Prop:=
 ∃ x y:Int,e=.returned (.tuple #[.agg #[.int .i64 x,.int .i64 y],.bool o.isSome])∧(∀ k,o=some k→x=k∧y=place)∧Below w.heap.size w w'
theorem stepCells:(Tryz.prog.info? 201).map (·.size)=some 2:=by kernel_rfl
theorem stepAt_any (w0 w:World) (r b:Nat) (V:Voc) (hC:Coder w b V) {at_ before behind:List Int} {st:List (Nat×Nat)} (hR:Row w0 w r b at_ before behind st) {place:Int} {o:Option Nat} (ho:StepIs V.mer at_ behind place o):
  Calls Tryz.prog 113 #[at0 r,.int .i64 place] w (StepOut w place o):=by
 obtain ⟨A,B,ca,cb,bp,D,cs,hC⟩:=hC
 obtain ⟨va,vb,vc,vs,hR⟩:=hR
 have b1:Below w.heap.size w (w.alloc (.cells #[.int .i64 0,.int .i64 0] 201)):=(Below.refl _ w).alloc (Nat.le_refl _) _
 obtain ⟨W,hW⟩:∃ W,W=w.alloc (.cells #[.int .i64 0,.int .i64 0] 201):=⟨_,rfl⟩
 have hs:Blk W w.heap.size 201 #[.int .i64 0,.int .i64 0]:=by rw [hW];exact Blk.new _ _ _
 rw [← hW] at b1
 have HW:=Lib.hid hW
 have HS:=Lib.hid hs
 have HB1:=Lib.hid b1
 have hR1:=hR.then b1
 have hC1:=hC.below b1
 have g0:∀ q,(W.drewN q).cell? ⟨r,0,none⟩=some (at0 b):=fun q=>by have:=(hR1.blk.drewN q).cell 0;simpa using this
 have g1:∀ q,(W.drewN q).cell? ⟨r,1,none⟩=some va:=fun q=>by have:=(hR1.blk.drewN q).cell 1;simpa using this
 have g3:∀ q,(W.drewN q).cell? ⟨r,3,none⟩=some vc:=fun q=>by have:=(hR1.blk.drewN q).cell 3;simpa using this
 have g5:∀ q,(W.drewN q).cell? ⟨b,258,none⟩=some (.map (some bp)):=fun q=>by have:=(hC1.blk.drewN q).cell 258;rw [hC1.cM] at this;exact this
 have hMap:=hC1.map
 have hIsR:=hC1.isR
 have hfit:=hR1.fits.1
 have hsm:=hR1.small.1
 have hAt:=hR1.atR
 have hBeh:=hR1.behR
 have hfb:=hR1.fits.2.2
 have hsb:=hR1.small.2.2.1
 clear hC hR hR1 hC1 hW hs b1
 have hout:∀ (n:Nat) (x y:Int),Below w.heap.size w ((W.drewN n).setCell ⟨w.heap.size,0,none⟩ (.int .i64 x) |>.setCell ⟨w.heap.size,1,none⟩ (.int .i64 y))∧Blk ((W.drewN n).setCell ⟨w.heap.size,0,none⟩ (.int .i64 x) |>.setCell ⟨w.heap.size,1,none⟩ (.int .i64 y)) w.heap.size 201 #[.int .i64 x,.int .i64 y]:=fun n x y=>by
  refine ⟨((below_drewN HB1.out n).setCell (Nat.le_refl _) _).setCell (Nat.le_refl _) _,?_⟩
  have:=((HS.out.drewN n).set_ 0 (.int .i64 x)).set_ 1 (.int .i64 y)
  simpa using this
 have HOUT:=Lib.hid hout
 clear hout
 unfold at0 at g0 ⊢
 cases ho with
 | neg=>
  clear hMap hIsR hfit hsm hAt hBeh hfb hsb g0 g1 g3 g5
  have k0:decide ((-1:Int) < 0)=true:=by decide
  have HK0:=Lib.hid k0
  go_enter Tryz.func113,Tryz.ntmps113
  go_wp2_with fail
  rw [← HW.out]
  clear k0
  go_quiet (fail)
  have e0:=(HS.out.drewN nq).cell 0
  have e1:=(HS.out.drewN nq).cell 1
  have z0:=(HS.out.drewN nq).frozen 0
  have z1:=(HS.out.drewN nq).frozen 1
  simp only [lz0,lz1,lz2] at e0 e1
  go_wp2
  refine bodyPost_ret (results_cell_row_tmp rfl _ _ w.heap.size 201 #[.int .i64 0,.int .i64 0] (0,0) _ rfl ?_ Tryz.underlying201 rfl stepCells) rfl ?_
  ·exact (HOUT.out nq 0 0).2
  ·exact ⟨0,0,rfl,(fun k h=>by cases h),(HOUT.out nq 0 0).1⟩
 | stop p hp=>
  obtain ⟨adc,cc,rfl,ec,hcc⟩:=own_int_at hBeh hp
  obtain ⟨A1,c1,rfl⟩:=own_slice hAt
  have hpl:p < behind.length:=(List.getElem?_eq_some_iff.1 hp).1
  have l1:∀ q,(W.drewN q).cell? (adc.add p)=some (.int .i64 (at_.length:Int)):=fun q=>ec
  obtain ⟨N,hN⟩:∃ N,N=at_.length:=⟨_,rfl⟩
  obtain ⟨M,hM⟩:∃ M,M=behind.length:=⟨_,rfl⟩
  rw [← hN] at l1 g1
  rw [← hM] at g3 hpl hsb
  clear hMap hIsR hfit hsm hAt hBeh hfb ec hp hN hM hcc
  have k0:decide ((p:Int) < 0)=false:=by simp
  have k1:((N:Int)==(N:Int))=true:=by simp
  have hp0:(0:Int)≤(p:Int):=by omega
  have hpM:(p:Int) < (M:Int):=by omega
  go_enter Tryz.func113,Tryz.ntmps113
  go_wp2_with fail
  rw [← HW.out]
  go_quiet (fail)
  have e0:=(HS.out.drewN nq).cell 0
  have e1:=(HS.out.drewN nq).cell 1
  have z0:=(HS.out.drewN nq).frozen 0
  have z1:=(HS.out.drewN nq).frozen 1
  simp only [lz0,lz1,lz2] at e0 e1
  clear g0 g1 g3 g5 l1
  go_wp2
  refine bodyPost_ret (results_cell_row_tmp rfl _ _ w.heap.size 201 #[.int .i64 0,.int .i64 0] (0,0) _ rfl ?_ Tryz.underlying201 rfl stepCells) rfl ?_
  ·exact (HOUT.out nq 0 0).2
  ·exact ⟨0,0,rfl,(fun k h=>by cases h),(HOUT.out nq 0 0).1⟩
 | pair p q x y hq hlt hx hy=>
  obtain ⟨adc,cc,rfl,ec,hcc⟩:=own_int_at hBeh hq
  obtain ⟨ada,ca',rfl,ea,hca⟩:=own_int_at hAt hx
  obtain ⟨ada2,ca2,e2,ea2,_⟩:=own_int_at hAt hy
  simp only [Value.slice.injEq,Option.some.injEq,true_and] at e2
  obtain ⟨rfl,rfl⟩:=e2
  have hpl:p < behind.length:=(List.getElem?_eq_some_iff.1 hq).1
  have hpa:p < at_.length:=(List.getElem?_eq_some_iff.1 hx).1
  have fx:fits64 x:=hfit x (List.mem_of_getElem? hx)
  have fy:fits64 y:=hfit y (List.mem_of_getElem? hy)
  have l1:∀ n,(W.drewN n).cell? (adc.add p)=some (.int .i64 (q:Int)):=fun n=>ec
  have l2:∀ n,(W.drewN n).cell? (ada.add p)=some (.int .i64 x):=fun n=>ea
  have l3:∀ n,(W.drewN n).cell? (ada.add q)=some (.int .i64 y):=fun n=>ea2
  have hlk:∀ n,(Instr.lookup 89 (.map (some bp)) (.agg #[.int .i64 x,.int .i64 y]) true).run Tryz.prog (W.drewN n)=.ok (.tuple #[.int .i64 (rkInt V.mer x y),.bool (rkOf V.mer x y).isSome]) (W.drewN n):=fun n=>rank_look (w:=W.drewN n) (ownsMap_block hMap rfl) hIsR fx fy
  have hri:∀ k,rkOf V.mer x y=some k→rkInt V.mer x y=k:=fun k e=>by unfold rkInt;rw [e]
  have HRI:=Lib.hid hri
  obtain ⟨O,hO⟩:∃ O,O=rkOf V.mer x y:=⟨_,rfl⟩
  obtain ⟨K,hK⟩:∃ K,K=rkInt V.mer x y:=⟨_,rfl⟩
  rw [← hO,← hK] at HRI
  rw [← hO,← hK] at hlk
  rw [← hO]
  obtain ⟨F,hF⟩:∃ F,F=O.isSome:=⟨_,rfl⟩
  rw [← hF] at hlk
  have HF:=Lib.hid hF
  obtain ⟨N,hN⟩:∃ N,N=at_.length:=⟨_,rfl⟩
  obtain ⟨M,hM⟩:∃ M,M=behind.length:=⟨_,rfl⟩
  rw [← hN] at g1 hlt hsm hpa
  rw [← hM] at g3 hpl hsb
  clear hMap hIsR hfit hAt hBeh hfb ec ea ea2 hq hx hy hN hM hcc hca fx fy hri hO hK hF
  have k0:decide ((p:Int) < 0)=false:=by simp
  have k1:((q:Int)==(N:Int))=false:=by simp;omega
  have hp0:(0:Int)≤(p:Int):=by omega
  have hpM:(p:Int) < (M:Int):=by omega
  have hpN:(p:Int) < (N:Int):=by omega
  have hq0:(0:Int)≤(q:Int):=by omega
  have hqN:(q:Int) < (N:Int):=by omega
  go_enter Tryz.func113,Tryz.ntmps113
  go_wp2_with fail
  rw [← HW.out]
  go_quiet (fail)
  go_wp2_with fail
  obtain ⟨n1,hn1⟩:∃ n1,n1=nq:=⟨_,rfl⟩
  subst hn1
  obtain ⟨W1,hW1⟩:∃ W1,W1=W.drewN n1:=⟨_,rfl⟩
  have g0':∀ n,(W1.drewN n).cell? ⟨r,0,none⟩=some (.pointer (some ⟨b,0,none⟩)):=fun n=>by rw [hW1];exact g0 (n1+n)
  have g1':∀ n,(W1.drewN n).cell? ⟨r,1,none⟩=some (.slice (some ada) N ca'):=fun n=>by rw [hW1];exact g1 (n1+n)
  have g3':∀ n,(W1.drewN n).cell? ⟨r,3,none⟩=some (.slice (some adc) M cc):=fun n=>by rw [hW1];exact g3 (n1+n)
  have g5':∀ n,(W1.drewN n).cell? ⟨b,258,none⟩=some (.map (some bp)):=fun n=>by rw [hW1];exact g5 (n1+n)
  have l1':∀ n,(W1.drewN n).cell? (adc.add p)=some (.int .i64 (q:Int)):=fun n=>by rw [hW1];exact l1 (n1+n)
  have l2':∀ n,(W1.drewN n).cell? (ada.add p)=some (.int .i64 x):=fun n=>by rw [hW1];exact l2 (n1+n)
  have l3':∀ n,(W1.drewN n).cell? (ada.add q)=some (.int .i64 y):=fun n=>by rw [hW1];exact l3 (n1+n)
  have hlk':∀ n,(Instr.lookup 89 (.map (some bp)) (.agg #[.int .i64 x,.int .i64 y]) true).run Tryz.prog (W1.drewN n)=.ok (.tuple #[.int .i64 K,.bool F]) (W1.drewN n):=fun n=>by
   have h:=hlk (n1+n)
   rw [← World.drewN_drewN,← hW1] at h
   exact h
  clear g0 g1 g3 g5 l1 l2 l3 hlk
  rw [← hW1]
  have HW1:=Lib.hid hW1
  clear hW1
  go_quiet (fail)
  rw [HW1.out,World.drewN_drewN]
  have e0:=(HS.out.drewN (n1+nq)).cell 0
  have e1:=(HS.out.drewN (n1+nq)).cell 1
  have z0:=(HS.out.drewN (n1+nq)).frozen 0
  have z1:=(HS.out.drewN (n1+nq)).frozen 1
  simp only [lz0,lz1,lz2] at e0 e1
  clear g0' g1' g3' g5' l1' l2' l3' hlk'
  go_wp2
  refine bodyPost_ret (results_cell_row_tmp rfl _ _ w.heap.size 201 #[.int .i64 K,.int .i64 p] (0,0) _ rfl ?_ Tryz.underlying201 rfl stepCells) rfl ?_
  ·exact (HOUT.out _ K p).2
  ·exact ⟨K,p,by rw [← HF.out];rfl,fun k h=>⟨HRI.out k h,rfl⟩,(HOUT.out _ K p).1⟩
structure IsRV (w:World) (F:Nat→Prop) (b:Nat) (V:Voc) (tv mv:Value) (svs:List Value):Prop where
 blk:Blk w b 30 #[tv,mv]
 trow:w.ownsRow 0 24 1 tv V.tok.length svs
 toks:∀ (i:Nat) (sv:Value) (x:Nm),svs[i]?=some sv→V.tok[i]?=some x→TokIn w F sv x
 mrow:w.ownsRow 0 88 3 mv V.mer.length (V.mer.flatMap mgCells)
 fits:∀ m∈V.mer,mgFits m
 fb:F b
 fv:∀ g,tv.ownBlock=some g→F g
 fm:∀ g,mv.ownBlock=some g→F g
 lt:∀ i,F i→i < w.heap.size
theorem IsRV.kept {w w':World} {F:Nat→Prop} {b:Nat} {V:Voc} {tv mv:Value} {svs:List Value} (h:IsRV w F b V tv mv svs) (hb:Below w.heap.size w w'):IsRV w' F b V tv mv svs where
 blk:=h.blk.same (hb.block _ (h.lt _ h.fb))
 trow:=ownsRow_block h.trow fun g hg=>hb.block g (h.lt g (h.fv g hg))
 toks:=fun i sv x h1 h2=>(h.toks i sv x h1 h2).mono (G:=fun _=>False) (Kept.below hb) (fun _=>False.elim) (fun _ hf=>.inl hf)
 mrow:=ownsRow_block h.mrow fun g hg=>hb.block g (h.lt g (h.fm g hg))
 fits:=h.fits
 fb:=h.fb
 fv:=h.fv
 fm:=h.fm
 lt:=fun i hi=>Nat.lt_of_lt_of_le (h.lt i hi) hb.size
theorem IsRV.addTok {w w2:World} {F:Nat→Prop} {b:Nat} {V:Voc} {tv tv' mv sv:Value} {svs:List Value} {x:Nm} (h:IsRV w F b V tv mv svs) (hx:TokIn w F sv x)
  (hown:w2.ownsRow 0 24 1 tv' (V.tok.length+1) (svs++[sv])) (hg:w.grownBy w2 tv.ownBlock) (hloc:tv'.ownBlock=tv.ownBlock∨tv'.ownBlock=some w.heap.size):
  IsRV (w2.setCell ⟨b,0,none⟩ tv') (Own F w (w2.setCell ⟨b,0,none⟩ tv')) b ⟨V.tok++[x],V.mer⟩ tv' mv (svs++[sv])∧Kept F w (w2.setCell ⟨b,0,none⟩ tv'):=by
 have hnb:tv.ownBlock≠some b:=own_blk_ne h.trow h.blk (by decide)
 have hblk2:Blk w2 b 30 #[tv,mv]:=h.blk.grown hg (fun e=>hnb e.symm)
 have hsz:(w2.setCell ⟨b,0,none⟩ tv').heap.size=w2.heap.size:=size_setCell' _ _ _
 have hs2:=hg.size
 have hkp:Kept F w (w2.setCell ⟨b,0,none⟩ tv'):=((Kept.refl F w).grown hg (fun g e=>.inl (h.fv g e))).setCell (.inl h.fb) _
 have hF:∀ i,Own F w (w2.setCell ⟨b,0,none⟩ tv') i→F i∨w.heap.size≤i:=fun i hi=>hi.imp id (·.1)
 have hcl:svs.length=V.tok.length:=by have:=h.trow.1;simpa using this
 have hold:∀ i,i < w.heap.size→i≠b→tv.ownBlock≠some i→(w2.setCell ⟨b,0,none⟩ tv').heap[i]?=w.heap[i]?:=fun i h0 h1 h2=>by
  rw [heap_setCell_other _ _ _ h1,hg.block i h0 (fun e=>h2 e.symm)]
 refine ⟨?_,hkp⟩
 exact {
  blk:=by have:=hblk2.set_ 0 tv';simpa using this
  trow:=by
   show World.ownsRow _ 0 24 1 _ (V.tok++[x]).length _
   rw [List.length_append,List.length_singleton]
   exact ownsRow_block hown fun g e=>heap_setCell_other _ _ _ fun e2=>own_blk_ne hown hblk2 (by decide) (by rw [e,e2])
  toks:=fun i sv' y h1 h2=>by
   have h2':(V.tok++[x])[i]?=some y:=h2
   rcases Nat.lt_or_ge i V.tok.length with hik | hik
   ·rw [List.getElem?_append_left (by omega)] at h1
    rw [List.getElem?_append_left hik] at h2'
    exact (h.toks i sv' y h1 h2').mono hkp (fun _ hf=>hf) hF
   ·have hi':=(List.getElem?_eq_some_iff.1 h2').1
    rw [List.length_append,List.length_singleton] at hi'
    obtain rfl:i=V.tok.length:=by omega
    rw [List.getElem?_append_right (by omega),hcl,Nat.sub_self] at h1
    rw [List.getElem?_append_right (Nat.le_refl _),Nat.sub_self] at h2'
    cases h1
    cases h2'
    exact hx.mono hkp (fun _ hf=>hf) hF
  mrow:=ownsRow_block h.mrow fun g e=>by
   have hgl:=h.lt g (h.fm g e)
   exact hold g hgl (fun e2=>own_blk_ne h.mrow h.blk (by decide) (by rw [e,e2])) (fun e2=>own_row_ne h.trow h.mrow (by decide) g e2 e)
  fits:=h.fits
  fb:=.inl h.fb
  fv:=fun g e=>by
   rcases hloc with hl | hl
   ·exact .inl (h.fv g (hl.symm.trans e))
   ·have hlt:=(hown.lt g e).2
    rw [hl] at e
    simp at e
    exact .inr ⟨by omega,by omega⟩
  fm:=fun g e=>.inl (h.fm g e)
  lt:=fun i hi=>by
   rcases hi with hi | hi
   ·have:=h.lt i hi;omega
   ·exact hi.2 }
theorem IsRV.addMer {w w2:World} {F:Nat→Prop} {b:Nat} {V:Voc} {tv mv mv':Value} {svs:List Value} {m:Mg} (h:IsRV w F b V tv mv svs) (hm:mgFits m)
  (hown:w2.ownsRow 0 88 3 mv' (V.mer.length+1) (V.mer.flatMap mgCells++mgCells m)) (hg:w.grownBy w2 mv.ownBlock) (hloc:mv'.ownBlock=mv.ownBlock∨mv'.ownBlock=some w.heap.size):
  IsRV (w2.setCell ⟨b,1,none⟩ mv') (Own F w (w2.setCell ⟨b,1,none⟩ mv')) b ⟨V.tok,V.mer++[m]⟩ tv mv' svs∧Kept F w (w2.setCell ⟨b,1,none⟩ mv'):=by
 have hnb:mv.ownBlock≠some b:=own_blk_ne h.mrow h.blk (by decide)
 have hblk2:Blk w2 b 30 #[tv,mv]:=h.blk.grown hg (fun e=>hnb e.symm)
 have hsz:(w2.setCell ⟨b,1,none⟩ mv').heap.size=w2.heap.size:=size_setCell' _ _ _
 have hs2:=hg.size
 have hkp:Kept F w (w2.setCell ⟨b,1,none⟩ mv'):=((Kept.refl F w).grown hg (fun g e=>.inl (h.fm g e))).setCell (.inl h.fb) _
 have hF:∀ i,Own F w (w2.setCell ⟨b,1,none⟩ mv') i→F i∨w.heap.size≤i:=fun i hi=>hi.imp id (·.1)
 have hold:∀ i,i < w.heap.size→i≠b→mv.ownBlock≠some i→(w2.setCell ⟨b,1,none⟩ mv').heap[i]?=w.heap[i]?:=fun i h0 h1 h2=>by
  rw [heap_setCell_other _ _ _ h1,hg.block i h0 (fun e=>h2 e.symm)]
 refine ⟨?_,hkp⟩
 exact {
  blk:=by have:=hblk2.set_ 1 mv';simpa using this
  trow:=ownsRow_block h.trow fun g e=>by
   have hgl:=h.lt g (h.fv g e)
   exact hold g hgl (fun e2=>own_blk_ne h.trow h.blk (by decide) (by rw [e,e2])) (fun e2=>own_row_ne h.mrow h.trow (by decide) g e2 e)
  toks:=fun i sv' y h1 h2=>(h.toks i sv' y h1 h2).mono hkp (fun _ hf=>hf) hF
  mrow:=by
   show World.ownsRow _ 0 88 3 _ (V.mer++[m]).length ((V.mer++[m]).flatMap mgCells)
   rw [List.length_append,List.length_singleton,List.flatMap_append,List.flatMap_singleton]
   exact ownsRow_block hown fun g e=>heap_setCell_other _ _ _ fun e2=>own_blk_ne hown hblk2 (by decide) (by rw [e,e2])
  fits:=fun m' hm'=>by
   rcases List.mem_append.1 hm' with h1 | h1
   ·exact h.fits m' h1
   ·rw [List.mem_singleton.1 h1];exact hm
  fb:=.inl h.fb
  fv:=fun g e=>.inl (h.fv g e)
  fm:=fun g e=>by
   rcases hloc with hl | hl
   ·exact .inl (h.fm g (hl.symm.trans e))
   ·have hlt:=(hown.lt g e).2
    rw [hl] at e
    simp at e
    exact .inr ⟨by omega,by omega⟩
  lt:=fun i hi=>by
   rcases hi with hi | hi
   ·have:=h.lt i hi;omega
   ·exact hi.2 }
theorem IsRV.far {w w':World} {F:Nat→Prop} {b:Nat} {V:Voc} {tv mv:Value} {svs:List Value} (h:IsRV w F b V tv mv svs) {g:Nat} (hk:Kept (fun i=>i=g) w w') (hg:¬ F g)
  (ht:∀ (A:Option Addr) (x:Nm),BytesIn w A x.length x→∀ ad,A=some ad→0 < x.length→ad.block≠g):IsRV w' F b V tv mv svs where
 blk:=h.blk.kept hk (fun e=>hg (e ▸ h.fb))
 trow:=ownsRow_kept h.trow hk fun g' hg' e=>hg (e ▸ h.fv g' hg')
 toks:=fun i sv x h1 h2=>by
  obtain ⟨A,c,e1,e2,e3,e4⟩:=h.toks i sv x h1 h2
  exact ⟨A,c,e1,e2,e3.keptF hk (ht A x e3),e4⟩
 mrow:=ownsRow_kept h.mrow hk fun g' hg' e=>hg (e ▸ h.fm g' hg')
 fits:=h.fits
 fb:=h.fb
 fv:=h.fv
 fm:=h.fm
 lt:=fun i hi=>Nat.lt_of_lt_of_le (h.lt i hi) hk.size
theorem IsRV.see {w:World} {F:Nat→Prop} {b:Nat} {V:Voc} {tv mv:Value} {svs:List Value} (h:IsRV w F b V tv mv svs) (hl:V.tok.length≤1048576) (hm:V.mer.length≤1048576):
  ∃ A B ca cb,tv=.slice A V.tok.length ca∧mv=.slice B V.mer.length cb∧VocSee w A B V.tok.length V.mer.length ca cb V:=by
 obtain ⟨A,ca,e1,c1⟩:=own_cap h.trow
 obtain ⟨B,cb,e2⟩:=own_slice h.mrow
 have ht:=h.trow
 have hmr:=h.mrow
 rw [e1] at ht
 rw [e2] at hmr
 obtain ⟨h3,h4⟩:=ownRows_see ht rfl (by unfold maxLen;omega) (fun i sv x h1 h2=>by
  obtain ⟨A',c',a1,a2,a3,_⟩:=h.toks i sv x h1 h2
  exact ⟨A',c',a1,a2,a3⟩)
 obtain ⟨h5,h6⟩:=MgSee.own hmr rfl (by unfold maxLen;omega) h.fits
 exact ⟨A,B,ca,cb,e1,e2,h3,h5,h4,h6⟩
theorem bytes_of (w:World) (l:Nm) (hl:l.length≤1099511627776):∃ c w',(convert 9 24 (.string ⟨l.toArray⟩)).run Tryz.prog w=.ok (.slice (some ⟨w.heap.size,0,none⟩) l.length c) w'∧Below w.heap.size w w'∧BytesIn w' (some ⟨w.heap.size,0,none⟩) l.length l∧l.length≤c∧w'.heap.size=w.heap.size+1:=by
 have hr:=Lib.run_convert_string_bytes (P:=Tryz.prog) w 9 24 5 ⟨l.toArray⟩ Tryz.underlying9 Tryz.underlying24 Tryz.underlying5
 have hsz:(⟨l.toArray⟩:ByteArray).size=l.length:=by simp [ByteArray.size]
 rw [hsz] at hr
 have hG:=grownCap_ge w l.length 0 5
 refine ⟨_,_,hr,⟨rfl,rfl,rfl,by rw [Lib.bytesWorld_size];omega,fun k hk=>Lib.bytesWorld_at_old w 5 _ k hk⟩,⟨by unfold maxLen;omega,⟨by simp,fun ad e j u hu=>?_,fun e=>by cases e⟩,fun ad e _=>by cases e;rw [Lib.bytesWorld_size];simp⟩,hG,Lib.bytesWorld_size _ _ _⟩
 cases e
 rw [addr_add]
 rw [List.getElem?_map] at hu
 have hj:j < l.length:=by
  rcases Nat.lt_or_ge j l.length with h | h
  ·exact h
  ·rw [List.getElem?_eq_none h] at hu;cases hu
 rw [List.getElem?_eq_getElem hj] at hu
 simp only [Option.map_some,Option.some.injEq] at hu
 rw [Lib.bytesWorld_cell w 5 _ j (by rw [hsz];exact hj),← hu]
 simp [byteV,List.getD_eq_getElem?_getD,hj]
end Go.Proofs.YthcjikpabpgpfaaGreat
