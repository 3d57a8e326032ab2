import Derived.Test.YthcjikpabpgpfaaGreatZp22
import Derived.Lib.Overlaps
import Derived.Lib.AppendZerosOnto
import Derived.Deep.AppendLies
import Derived.Laws.Externs
import Derived.Maps.AppendAt
import Derived.Deep.RegionHeld3
set_option linter.unusedSimpArgs false
set_option maxHeartbeats 16000000
set_option maxRecDepth 100000
namespace Go.Proofs.YthcjikpabpgpfaaGreat
section
open Go.RowKit Go.Maps Go.WideMaps
theorem Zfa {P:Program} (w:World) {ops:Array Oper} {rest:List Oper} {o:Oper} {a:Act} {Q:Exit->Act->World->Prop} (hgd:o.guard=none) (d s:Operand) (t t':TypeId)
  (ho:o.op=.call { callee:=.builtin .copy,args:=#[d,s],argTypes:=#[t,t'] }) (v u:Value) (hd:a.eval d=v) (hs:a.eval s=u) {v':Value} {w':World}
  (hr:(Builtin.copy_ #[t,t'] o.type #[v,u]).run P w=.ok v' w') (h:wpList P ops Q rest (a.put o.dst v') w'):wpList P ops Q (o :: rest) a w:=
 wpList_plain hgd λK hK=>by
  unfold Oper.wp execOp;simp only[ho,resolve,invoke,builtin,Sem.run_bind,Sem.run_pure,Result.andThen_ok,List.map_toArray,Ya2,List.map_nil,hd,hs,hr];exact hK _ _ h
theorem Zga {P:Program} {ops:Array Oper} {o:Oper} {a:Act} {w:World} {K:Act->World->Prop} {Q:Exit->Act->World->Prop} {E:Prop}
  (hg:o.guard=none) (d x:Operand) (dT sT:TypeId) (hop:o.op=Op.call { callee:=Callee.builtin Builtin.copy,args:=#[d,x],argTypes:=#[dT,sT] })
  (v u:Value) (hd:a.eval d=v) (hx:a.eval x=u) {v':Value} {w':World} (hr:(Builtin.copy_ #[dT,sT] o.type #[v,u]).run P w=.ok v' w') (hK:K (a.put o.dst v') w'):
  if Region.wanted o (yielded ops a.tmps)=true then Oper.wp P o a w K Q else E:=by
 have hw:Region.wanted o (yielded ops a.tmps)=true:=by simp[Region.wanted,hg]
 rw[Yag hw];unfold Oper.wp;simp[execOp,hop,resolve,invoke,builtin,hd,hx,hr,Result.andThen];exact hK
def Zr9 (w:World) (base:Nat) (v:Value) (n:Nat) (ys:List Value) (e:Ending) (w':World):Prop:=
 ∃ v',e=.returned v'/\w'.ownsRow base 201 2 v' (n+1) ys/\w.grownBy w' v.ownBlock/\(v'.ownBlock=v.ownBlock\/v'.ownBlock=some w.heap.size)
theorem Qdo (w:World) (base:Nat) (v:Value) (n:Nat) (xs:List Value) (hown:w.ownsRow base 201 2 v n xs) (hn:n<=1048576) (vb:Nat) (x y:Value) (hvb:Blk w vb 201 #[x,y])
  (h1x:x.oneCell'=true) (h1y:y.oneCell'=true) (hbase:base<=w.heap.size):
  Calls Tryz.prog 159 #[v,.int .i64 n,.slice (some ⟨vb,0,none⟩) 1 1] w (Zr9 w base v n (xs++[x,y])):=by
 obtain⟨i0,hi0,hz0,hz1,hz2⟩:=info_parts Zia;obtain⟨A,c,rfl⟩:=Zac hown;have hnc:n<=c:=by
  rcases hown.2 with⟨h1,h2⟩|⟨g,cap,cur,h1,h2,h3,h4,_⟩
  ·omega
  ·simp only[Value.slice.injEq,true_and]at h1;omega
 have hnews:∀ (j:Nat) (u:Value),[x,y][j]?=some u->w.cell? ((⟨vb,0,none⟩:Addr).add j)=some u:=λj u hu=>by
  rw[Zaz,hvb.cell j];simpa using hu
 have hone:∀ u∈[x,y],u.oneCell'=true:=λu hu=>by
  simp at hu;rcases hu with rfl|rfl
  ·exact h1x
  ·exact h1y
 have HN:=Zh hnews;have HO:=Zh hown;have H1:=Zh hone;clear hown hvb hnews hone h1x h1y;have hz:((1:Int)==0)=false:=by decide
 by_cases hcn:c=n
 ·subst hcn
  have he:((c:Int)==(c:Int))=true:=by simp
  go_enter Tryz.func159,Tryz.ntmps159;go_wp2_with (at_builtin;refine wpList_append_lies _ rfl (.tmp 23) (.tmp 24) 128 rfl base 201 i0 _ 2 16 Tryz.underlying128 hi0 hz0 hz1 hz2 rfl (by decide) (.slice A c c) c xs rfl HO.out ⟨vb,0,none⟩ 1 1 [x,y] rfl rfl HN.out H1.out (by omega) (by unfold maxLen;omega) (by omega) hbase _ rfl ?_;intro g cap w2 hown' hg2 hloc hlt2;have HOWN:=Zh hown';have HG2:=Zh hg2;have HLOC:=Zh hloc;clear hown' hg2 hloc hlt2);go_ret;exact⟨_,rfl,HOWN.out,HG2.out,HLOC.out.imp (λh=>Eq.symm h) (λh=>by rw[h];rfl)⟩
 ·skip
  have he:((n:Int)==(n:Int))=true:=by simp
  go_enter Tryz.func159,Tryz.ntmps159;go_wp2_with (at_builtin;refine wpList_append_lies _ rfl (.tmp 23) (.tmp 24) 128 rfl base 201 i0 _ 2 16 Tryz.underlying128 hi0 hz0 hz1 hz2 rfl (by decide) (.slice A n c) n xs rfl HO.out ⟨vb,0,none⟩ 1 1 [x,y] rfl rfl HN.out H1.out (by omega) (by unfold maxLen;omega) (by omega) hbase _ rfl ?_;intro g cap w2 hown' hg2 hloc hlt2;have HOWN:=Zh hown';have HG2:=Zh hg2;have HLOC:=Zh hloc;clear hown' hg2 hloc hlt2);go_ret;exact⟨_,rfl,HOWN.out,HG2.out,HLOC.out.imp (λh=>Eq.symm h) (λh=>by rw[h];rfl)⟩
theorem Zwf (w:World) (base g cap:Nat) (cur:Array Value) (n:Nat) (xs:List Value) (hblk:Blk w g 201 cur) (hb:base<=g) (hcm:cap<=maxLen) (hcs:cur.size=cap*2) (hx:cur.toList.take (n*2)=xs) (hone:∀ u∈xs,u.oneCell'=true)
  (i:Nat) (hi:i<n) (hn:n<=1048576) (hroom:n+1<=cap) (vb:Nat) (x y:Value) (hvb:Blk w vb 201 #[x,y]) (hne:vb≠g) (h1x:x.oneCell'=true) (h1y:y.oneCell'=true):
  Calls Tryz.prog 159 #[.slice (some ⟨g,0,none⟩) n cap,.int .i64 i,.slice (some ⟨vb,0,none⟩) 1 1] w (Zr9 w base (.slice (some ⟨g,0,none⟩) n cap) n (xs.take (i*2)++[x,y]++xs.drop (i*2))):=by
 obtain⟨i0,hi0,hz0,hz1,hz2⟩:=info_parts Zia;have hxl:xs.length=n*2:=by rw[<- hx];simp;omega
 have hcl:cur.toList.length=cap*2:=by simp[hcs]
 obtain⟨D,hD⟩:=Ze (xs.drop (i*2));rw[<- hD];have hDl:D.length=(n-i)*2:=by rw[hD,Yas,hxl];omega
 have hD1:∀ u∈D,u.oneCell'=true:=λu hu=>hone u (Ycf (hD ▸ hu));have hxy:∀ u∈[x,y],u.oneCell'=true:=λu hu=>by
  simp at hu;rcases hu with rfl|rfl
  ·exact h1x
  ·exact h1y
 have hcell:∀ (j:Nat) (u:Value),xs[j]?=some u->w.drew.cell? ⟨g,j,none⟩=some u:=λj u hu=>by
  have:(w.drew).cell? ⟨g,j,none⟩=cur[j]?:=Blk.cell (w:=w.drew) hblk j;rw[this,<- Array.getElem?_toList];rw[<- hx,Yci]at hu;split at hu
  ·exact hu
  ·cases hu
 have hov:∀ lb cb,(callFunc 189 #[.slice (some ⟨vb,0,none⟩) 1 1,.slice (some ⟨g,(i+1)*2,none⟩) lb cb]).run Tryz.prog w=.ok (.value (.bool false)) w:=λlb cb=>by
  rw[run_callFunc_extern Tryz.func189 (by kernel_rfl) (by kernel_rfl) (by kernel_rfl) (e:=Extern.SlicesOverlaps.overlaps #[128,128] #[4]) (by kernel_rfl),
   Lib.run_overlaps_apart w 128 4 201 Tryz.underlying128 2 Tryz.sizeOf201 ⟨vb,0,none⟩ ⟨g,(i+1)*2,none⟩ 1 1 lb cb hne 201 201 2 cur.size (by unfold Blk at hvb;simp[World.shape?,hvb]) (by unfold Blk at hblk;simp[World.shape?,hblk]) (by omega) (hvb.frozen 0) (hvb.frozen 2)]
  rfl
 have hcp1:∀ ty dc sc,(Builtin.copy_ #[128,128] ty #[.slice (some ⟨g,(i+1)*2,none⟩) (n-i) dc,.slice (some ⟨g,i*2,none⟩) (n+1-i) sc]).run Tryz.prog w.drew=.ok (goInt (n-i:Nat)) (w.drew.setCells g ((i+1)*2) D):=λty dc sc=>
  Zdd w.drew _ _ ty 201 i0 2 g ((i+1)*2) (n-i) dc ⟨g,i*2,none⟩ (n+1-i) sc (n-i) D Tryz.underlying128 hi0 hz1 (by simp only[Nat.min_def];split<;>omega) hDl
   (λj u hj=>by rw[Addr.add_lit];exact hcell (i*2+j) u (by rw[hD,Ybv]at hj;exact hj))
   (λj hj=>Zd9 (w:=w.drew) hblk (by omega)) (λj hj=>Blk.frozen (w:=w.drew) hblk _) hD1
 obtain⟨W1,hW1⟩:=Ze (w.drew.setCells g ((i+1)*2) D);have hB1:Blk W1 g 201 (seg cur.toList ((i+1)*2) D).toArray:=by rw[hW1];exact Zck D _ w.drew cur hblk (by omega)
 have hs1:(seg cur.toList ((i+1)*2) D).length=cap*2:=by rw[Ziv (by omega)];exact hcl
 have hv1:Blk W1 vb 201 #[x,y]:=by rw[hW1];exact(Zdi g D _ w.drew vb hne).trans hvb
 have hcp2:∀ ty dc,(Builtin.copy_ #[128,128] ty #[.slice (some ⟨g,i*2,none⟩) (n+1-i) dc,.slice (some ⟨vb,0,none⟩) 1 1]).run Tryz.prog W1=.ok (goInt (1:Nat)) (W1.setCells g (i*2) [x,y]):=λty dc=>
  Zdd W1 _ _ ty 201 i0 2 g (i*2) (n+1-i) dc ⟨vb,0,none⟩ 1 1 1 [x,y] Tryz.underlying128 hi0 hz1 (by simp only[Nat.min_def];split<;>omega) rfl
   (λj u hj=>by rw[Zaz,hv1.cell j];simpa using hj)
   (λj hj=>Zd9 hB1 (by simp only[Yco,hs1];simp at hj;omega)) (λj hj=>hB1.frozen _) hxy
 have hB2:Blk (W1.setCells g (i*2) [x,y]) g 201 (seg (seg cur.toList ((i+1)*2) D) (i*2) [x,y]).toArray:=Zck _ _ W1 _ hB1 (by simp only[Yco,hs1];simp;omega);have hG:w.grownBy (W1.setCells g (i*2) [x,y]) (some g):=by
  rw[hW1];exact Zdu (Zdu (Zgq (Zgo w _)) _ _) _ _
 have hfin:(W1.setCells g (i*2) [x,y]).ownsRow base 201 2 (.slice (some ⟨g,0,none⟩) (n+1) cap) (n+1) (xs.take (i*2)++[x,y]++D):=by
  refine Ze0 hB2 hb (by omega) hcm ?_ ?_
  ·simp only[Yco]
   rw[Ziv (by rw[hs1];simp;omega),hs1]
  ·have hxt:xs.take (i*2)=cur.toList.take (i*2):=by rw[<- hx,List.take_take];congr 1;omega
   rw[hxt];show(seg (seg cur.toList ((i+1)*2) D) (i*2) [x,y]).take ((n+1)*2)=_;unfold seg;have e1:(cur.toList.take ((i+1)*2)).length=(i+1)*2:=by simp;omega
   have e2:(cur.toList.take (i*2)).length=i*2:=by simp;omega
   have e3:(cur.toList.take ((i+1)*2)++D++cur.toList.drop ((i+1)*2+D.length)).take (i*2)=cur.toList.take (i*2):=by
    rw[Yao,Ya8 (by omega),List.take_take,Yb7 (by omega)]
   have e4:(cur.toList.take ((i+1)*2)++D++cur.toList.drop ((i+1)*2+D.length)).drop (i*2+[x,y].length)=D++cur.toList.drop ((i+1)*2+D.length):=by
    rw[Yao];exact List.drop_left' (by rw[e1];simp;omega)
   rw[e3,e4,<- Yao];rw[Ya8 (by simp;omega)];rw[Yav (by simp;omega)]
 obtain⟨YS,hYS⟩:=Ze (xs.take (i*2)++[x,y]++D);rw[<- hYS]at hfin ⊢;have HF:=Zh hfin;have HG:=Zh hG;have HC1:=Zh hcp1;have HC2:=Zh hcp2;have HW:=Zh hW1;unfold maxLen at hcm;have hz:((1:Int)==0)=false:=by decide
 have hin:((i:Int)==(n:Int))=false:=by simp;omega
 have hw0:(0:Int)<=(i:Int):=by omega
 have hle:(i:Int)<=(n:Int):=by omega
 have hle2:(i:Int)<=(n:Int)+1:=by omega
 have hq1:IntKind.i64.wrap ((n:Int)+1)=(n:Int)+1:=by rw[IntKind.wrap_i64];omega
 have hq2:IntKind.i64.wrap ((i:Int)+1)=(i:Int)+1:=by rw[IntKind.wrap_i64];omega
 have hq3:((i:Int)+1).toNat=i+1:=by omega
 have hq4:((n:Int)+1).toNat=n+1:=by omega
 have hq5:(0:Int)<=(i:Int)+1:=by omega
 have hq6:(0:Int)<=(n:Int)+1:=by omega
 have hq7:(i:Int)+1<=(n:Int)+1:=by omega
 have hq8:(n:Int)+1<=(cap:Int):=by omega
 have hq9:¬ ((cap:Int)<(n:Int)+1):=by omega
 have hc1:¬ (cap=i):=by omega
 have hc2:¬ (cap=i+1):=by omega
 have hni:n+1-(i+1)=n-i:=by omega
 clear hblk hx hcell hD hDl hD1 hB1 hs1 hv1 hB2 hG hfin hcp1 hcp2 hW1 hxl hcl hone hcs hxy hvb hYS;go_enter Tryz.func159,Tryz.ntmps159;go_wp2_with (simp only[hov]);go_region_law (refine Zga rfl (.tmp 73) (.tmp 76) 128 128 rfl (.slice (some ⟨g,(i+1)*2,none⟩) (n-i) (cap-(i+1))) (.slice (some ⟨g,i*2,none⟩) (n+1-i) (cap-i)) (by simp[Act.eval,Act.put,hni]) (by simp[Act.eval,Act.put]) (HC1.out 3 _ _) ?_);rw[<- HW.out];go_wp2_with (refine Zfa _ rfl (.tmp 80) (.tmp 81) 128 128 rfl _ _ rfl rfl (HC2.out _ _) ?_);go_ret;exact⟨_,rfl,HF.out,HG.out,.inl rfl⟩
theorem Qb0 (w:World) (base g cap:Nat) (cur:Array Value) (n:Nat) (xs:List Value) (hblk:Blk w g 201 cur) (hbase:base<=w.heap.size) (hcs:cur.size=cap*2) (hx:cur.toList.take (n*2)=xs) (hone:∀ u∈xs,u.oneCell'=true)
  (i:Nat) (hi:i<n) (hn:n<=1048576) (hnc:n<=cap) (hroom:cap<n+1) (vb:Nat) (x y:Value) (hvb:Blk w vb 201 #[x,y]) (h1x:x.oneCell'=true) (h1y:y.oneCell'=true):
  Calls Tryz.prog 159 #[.slice (some ⟨g,0,none⟩) n cap,.int .i64 i,.slice (some ⟨vb,0,none⟩) 1 1] w (Zr9 w base (.slice (some ⟨g,0,none⟩) n cap) n (xs.take (i*2)++[x,y]++xs.drop (i*2))):=by
 obtain⟨i0,hi0,hz0,hz1,hz2⟩:=info_parts Zia;obtain rfl:cap=n:=by omega
 have hxl:xs.length=cap*2:=by rw[<- hx];simp;omega
 have hcl:cur.toList.length=cap*2:=by simp[hcs]
 obtain⟨D,hD⟩:=Ze (xs.drop (i*2));obtain⟨T,hT⟩:=Ze (xs.take (i*2));rw[<- hD,<- hT];have hDl:D.length=(cap-i)*2:=by rw[hD,Yas,hxl];omega
 have hTl:T.length=i*2:=by rw[hT,Ycc,hxl];omega
 have hD1:∀ u∈D,u.oneCell'=true:=λu hu=>hone u (Ycf (hD ▸ hu));have hxy:∀ u∈[x,y],u.oneCell'=true:=λu hu=>by
  simp at hu;rcases hu with rfl|rfl
  ·exact h1x
  ·exact h1y
 have hcell:∀ (j:Nat) (u:Value),xs[j]?=some u->w.cell? ⟨g,j,none⟩=some u:=λj u hu=>by
  rw[hblk.cell j,<- Array.getElem?_toList];rw[<- hx,Yci]at hu;split at hu
  ·exact hu
  ·cases hu
 have hold:(Builtin.firstCells i0.size i (.slice (some ⟨g,0,none⟩) i cap)).run Tryz.prog w.drew=.ok T.toArray w.drew:=by
  rw[hz1];exact run_firstCells_some w.drew 2 i ⟨g,0,none⟩ i cap T hTl (λj u hj=>by
   rw[Addr.add_lit];rw[hT,Yci]at hj;split at hj
   ·have:=hcell j u hj
    simpa using this
   ·cases hj)
 obtain⟨G,hG⟩:=Ze (grownCap w (cap+1) cap 201);obtain⟨ROW,hROW⟩:∃ ROW:Array Value,ROW=T.toArray++Builtin.zeroCells (Value.agg #[.int .i64 0,.int .i64 0]).cells (cap+1-i)++Builtin.zeroCells (Value.agg #[.int .i64 0,.int .i64 0]).cells (G-(cap+1)):=⟨_,rfl⟩
 have hGn:cap+1<=G:=by rw[hG];exact grownCap_ge w _ _ _
 have hG63:G<=maxLen:=by
  have:=grownCap_le_maxLen w (cap+1) cap 201 (by unfold maxLen;omega)
  rw[<- hG]at this;exact this
 have hzz:(Value.agg #[.int .i64 0,.int .i64 0]).cells.size=2:=rfl;have hRl:ROW.size=G*2:=by
  rw[hROW];simp only[Array.size_append,Yco,hTl,Builtin.zeroCells,Array.size_map,Array.size_range,hzz];omega
 have hkk:(cap:Int)+1-(i:Int)=((cap+1-i:Nat):Int):=by omega
 have hik:i+(cap+1-i)=cap+1:=by omega
 have hrz:∀ ty,(Builtin.append_ #[128,3] ty #[.slice (some ⟨g,0,none⟩) i cap,.int .i64 ((cap:Int)+1-(i:Int))]).run Tryz.prog w=
   .ok (.slice (some ⟨w.heap.size,0,none⟩) (cap+1) G) (w.drew.alloc (.cells ROW 201)):=λty=>by
  have h:=Lib.run_append_grow_zeros w 128 3 ty 201 i0 _ .i64 .i64 Tryz.underlying128 Tryz.underlying3 hi0 hz0 (some ⟨g,0,none⟩) i cap T hold (cap+1-i) (by omega) (by omega) (by omega) (by omega) (by rw[hz2];omega) (by rw[hz2,hik];exact growslice_fits (by omega) (by omega));rw[hik,<- hG,<- hROW]at h;rw[hkk];exact h
 obtain⟨W0,hW0⟩:=Ze (w.drew.alloc (.cells ROW 201));have hB0:Blk W0 w.heap.size 201 ROW:=by rw[hW0];exact Blk.new w.drew _ _
 have hv0:Blk W0 vb 201 #[x,y]:=by rw[hW0];exact Blk.alloc (w:=w.drew) hvb _
 have hg0:Blk W0 g 201 cur:=by rw[hW0];exact Blk.alloc (w:=w.drew) hblk _
 have hgl:=hblk.lt;have hcpA:∀ ty dc,(Builtin.copy_ #[128,128] ty #[.slice (some ⟨w.heap.size,i*2,none⟩) (cap+1-i) dc,.slice (some ⟨vb,0,none⟩) 1 1]).run Tryz.prog W0=.ok (goInt (1:Nat)) (W0.setCells w.heap.size (i*2) [x,y]):=λty dc=>
  Zdd W0 _ _ ty 201 i0 2 w.heap.size (i*2) (cap+1-i) dc ⟨vb,0,none⟩ 1 1 1 [x,y] Tryz.underlying128 hi0 hz1 (by simp only[Nat.min_def];split<;>omega) rfl
   (λj u hj=>by rw[Zaz,hv0.cell j];simpa using hj)
   (λj hj=>Zd9 hB0 (by simp at hj;omega)) (λj hj=>hB0.frozen _) hxy
 obtain⟨W1,hW1⟩:=Ze (W0.setCells w.heap.size (i*2) [x,y]);have hB1:Blk W1 w.heap.size 201 (seg ROW.toList (i*2) [x,y]).toArray:=by rw[hW1];exact Zck _ _ W0 _ hB0 (by simp;omega)
 have hs1:(seg ROW.toList (i*2) [x,y]).length=G*2:=by rw[Ziv (by simp;omega)];simp[hRl]
 have hg1:Blk W1 g 201 cur:=by rw[hW1];exact(Zdi _ _ _ W0 g (by omega)).trans hg0
 have hcpB:∀ ty dc sc,(Builtin.copy_ #[128,128] ty #[.slice (some ⟨w.heap.size,(i+1)*2,none⟩) (cap-i) dc,.slice (some ⟨g,i*2,none⟩) (cap-i) sc]).run Tryz.prog W1.drew=.ok (goInt (cap-i:Nat)) (W1.drew.setCells w.heap.size ((i+1)*2) D):=λty dc sc=>
  Zdd W1.drew _ _ ty 201 i0 2 w.heap.size ((i+1)*2) (cap-i) dc ⟨g,i*2,none⟩ (cap-i) sc (cap-i) D Tryz.underlying128 hi0 hz1 (by simp only[Nat.min_def];split<;>omega) hDl
   (λj u hj=>by
    rw[Addr.add_lit];have h1:W1.drew.cell? ⟨g,i*2+j,none⟩=cur[i*2+j]?:=Blk.cell (w:=W1.drew) hg1 _;rw[h1,<- hblk.cell];exact hcell (i*2+j) u (by rw[hD,Ybv]at hj;exact hj))
   (λj hj=>Zd9 (w:=W1.drew) hB1 (by simp only[Yco,hs1];omega)) (λj hj=>Blk.frozen (w:=W1.drew) hB1 _) hD1
 have hB2:Blk (W1.drew.setCells w.heap.size ((i+1)*2) D) w.heap.size 201 (seg (seg ROW.toList (i*2) [x,y]) ((i+1)*2) D).toArray:=Zck D ((i+1)*2) W1.drew (seg ROW.toList (i*2) [x,y]).toArray hB1 (by simp only[Yco,hs1];omega);have hgr:w.grownBy (W1.drew.setCells w.heap.size ((i+1)*2) D) (some g):=by
  rw[hW1,hW0];exact Zob (Zgq (Zob (Zrv (Zgq (Zgo w _)) _) (Yar _) _ _)) (Yar _) _ _
 have hfin:(W1.drew.setCells w.heap.size ((i+1)*2) D).ownsRow base 201 2 (.slice (some ⟨w.heap.size,0,none⟩) (cap+1) G) (cap+1) (T++[x,y]++D):=by
  refine Ze0 hB2 hbase hGn hG63 ?_ ?_
  ·simp only[Yco]
   rw[Ziv (by rw[hs1];omega),hs1]
  ·show(seg (seg ROW.toList (i*2) [x,y]) ((i+1)*2) D).take ((cap+1)*2)=_
   have hRT:ROW.toList.take (i*2)=T:=by
    rw[hROW];simp only[Array.toList_append,Yao];exact List.take_left' hTl
   have e1:(seg ROW.toList (i*2) [x,y]).take ((i+1)*2)=T++[x,y]:=by
    unfold seg;rw[hRT];exact List.take_left' (by simp;omega)
   rw[seg,e1];exact List.take_left' (by simp;omega)
 obtain⟨YS,hYS⟩:=Ze (T++[x,y]++D);rw[<- hYS]at hfin ⊢;have HF:=Zh hfin;have HG:=Zh hgr;have HC1:=Zh hcpA;have HC2:=Zh hcpB;have HZ:=Zh hrz;have HW0:=Zh hW0;have HW1:=Zh hW1;unfold maxLen at hG63;have hz:((1:Int)==0)=false:=by decide
 have hin:((i:Int)==(cap:Int))=false:=by simp;omega
 have hw0:(0:Int)<=(i:Int):=by omega
 have hle:(i:Int)<=(cap:Int):=by omega
 have hle2:(i:Int)<=(cap:Int)+1:=by omega
 have hq1:IntKind.i64.wrap ((cap:Int)+1)=(cap:Int)+1:=by rw[IntKind.wrap_i64];omega
 have hq2:IntKind.i64.wrap ((i:Int)+1)=(i:Int)+1:=by rw[IntKind.wrap_i64];omega
 have hq3:((i:Int)+1).toNat=i+1:=by omega
 have hq5:(0:Int)<=(i:Int)+1:=by omega
 have hq7:(i:Int)+1<=(cap:Int)+1:=by omega
 have hq9:(cap:Int)<(cap:Int)+1:=by omega
 have hc1:¬ (G=i):=by omega
 have hc2:¬ (G=i+1):=by omega
 have hc3:¬ (cap=i):=by omega
 have hni:cap+1-(i+1)=cap-i:=by omega
 clear hblk hx hcell hD hDl hD1 hB1 hs1 hB2 hG hfin hcpA hcpB hW1 hW0 hxl hcl hone hcs hxy hvb hYS hT hTl hold hROW hzz hRl hkk hik hrz hB0 hv0 hg0 hg1 hgr;go_enter Tryz.func159,Tryz.ntmps159;go_wp2_with (at_builtin;refine Lib.wpList_append_run _ rfl (.tmp 34) (.tmp 39) 128 3 rfl _ _ rfl rfl _ _ (HZ.out _) ?_;rw[<- HW0.out];go_wp2_with (refine Zfa _ rfl (.tmp 43) (.tmp 44) 128 128 rfl _ _ rfl rfl (HC1.out _ _) ?_;rw[<- HW1.out]));go_region_law (refine Zga rfl (.tmp 50) (.tmp 53) 128 128 rfl (.slice (some ⟨w.heap.size,(i+1)*2,none⟩) (cap-i) (G-(i+1))) (.slice (some ⟨g,i*2,none⟩) (cap-i) (cap-i)) (by simp[Act.eval,Act.put,hni]) (by simp[Act.eval,Act.put]) (HC2.out 3 _ _) ?_);go_wp2_with fail;go_ret;exact⟨_,rfl,HF.out,HG.out,.inr rfl⟩
theorem Zi8 (w:World) (base:Nat) (v:Value) (n:Nat) (xs:List Value) (hown:w.ownsRow base 201 2 v n xs) (hone:∀ u∈xs,u.oneCell'=true) (i:Nat) (hi:i<=n) (hn:n<=1048576) (vb:Nat) (x y:Value) (hvb:Blk w vb 201 #[x,y])
  (hne:v.ownBlock≠some vb) (h1x:x.oneCell'=true) (h1y:y.oneCell'=true) (hbase:base<=w.heap.size):
  Calls Tryz.prog 159 #[v,.int .i64 i,.slice (some ⟨vb,0,none⟩) 1 1] w (Zr9 w base v n (xs.take (i*2)++[x,y]++xs.drop (i*2))):=by
 rcases Yab i n with h|h
 ·rcases hown.2 with⟨_,h0⟩|⟨g,cap,cur,rfl,hb,hblk,hnc,hcm,hcs,hx⟩
  ·omega
  ·rcases Yab cap (n+1)with h2|h2
   ·exact Qb0 w base g cap cur n xs hblk hbase hcs hx hone i h hn hnc h2 vb x y hvb h1x h1y
   ·exact Zwf w base g cap cur n xs hblk hb hcm hcs hx hone i h hn h2 vb x y hvb (λe=>hne (by rw[e];rfl)) h1x h1y
 ·obtain rfl:i=n:=by omega
  have hl:=hown.1;rw[Yav (by omega),List.drop_eq_nil_of_le (by omega),List.append_nil];exact Qdo w base v i xs hown hn vb x y hvb h1x h1y hbase
theorem Zmx:∀ (st:List (Nat×Nat)) (i:Nat),(st.flatMap stV).take (i*2)=(st.take i).flatMap stV
 | [],i=>by simp
 | s :: r,0=>by simp
 | s :: r,i+1=>by
  have ih:=Zmx r i;rw[Yaj,Yan,Yan,<- ih];rw[show(i+1)*2=(stV s).length+i*2 by simp[stV];omega];rw[List.take_append,Yav (by omega),Ybr]
theorem Znl:∀ (st:List (Nat×Nat)) (i:Nat),(st.flatMap stV).drop (i*2)=(st.drop i).flatMap stV
 | [],i=>by simp
 | s :: r,0=>by simp
 | s :: r,i+1=>by
  have ih:=Znl r i;rw[List.drop_succ_cons,Yan,<- ih];rw[show(i+1)*2=(stV s).length+i*2 by simp[stV];omega];rw[<- Ya1,Ya3]
theorem IsRow.setSt {w0 w w2:World} {r b:Nat} {at_ before behind:List Int} {st st':List (Nat×Nat)} {va vb vc vs vs':Value} (h:IsRow w0 w r b at_ before behind st va vb vc vs)
  (hown:w2.ownsRow w0.heap.size 201 2 vs' st'.length (st'.flatMap stV)) (hg:w.grownBy w2 vs.ownBlock) (hs:st'.length<=1048576) (hF:∀ s∈st',s.1<=1048576/\s.2<=1048576):
  IsRow w0 (w2.setCell ⟨r,4,none⟩ vs') r b at_ before behind st' va vb vc vs':=by
 have hrb:=h.blk.lt;have hnr:vs.ownBlock≠some r:=Zah h.stR h.blk (by decide);have hblk2:Blk w2 r 130 #[at0 b,va,vb,vc,vs]:=h.blk.grown hg (λe=>hnr e.symm);have hold:∀ {v:Value} {l:List Int},w.ownsRow w0.heap.size 3 1 v l.length (l.map i64V)->(w2.setCell ⟨r,4,none⟩ vs').ownsRow w0.heap.size 3 1 v l.length (l.map i64V):=λhv=>
  Zab hv λg e=>by
   rw[Zad _ _ _ (λe2=>Zah hv h.blk (by decide) (by rw[e,e2]))];exact hg.block g (hv.lt g e).2 (λe2=>Za7 hv h.stR (by decide) g e e2.symm)
 exact {
  blk:=by have:=hblk2.set_ 4 vs';simpa using this
  new:=h.new
  below:=by
   have h1:Below w0.heap.size w0 w2:=h.below.grown hg h.below.size (λk e=>(h.stR.lt k e).1);exact h1.setCell h.new _
  atR:=hold h.atR
  befR:=hold h.befR
  behR:=hold h.behR
  stR:=Zab hown λg e=>Zad _ _ _ λe2=>Zah hown hblk2 (by decide) (by rw[e,e2])
  nab:=h.nab
  nac:=h.nac
  nbc:=h.nbc
  fits:=h.fits
  small:=⟨h.small.1,h.small.2.1,h.small.2.2.1,hs⟩
  stF:=hF }
structure StStep (w w':World) (r:Nat) (vs vs':Value):Prop where
 size:w.heap.size<=w'.heap.size
 keep:∀ g,g<w.heap.size->g≠r->vs.ownBlock≠some g->w'.heap[g]?=w.heap[g]?
 own:vs'.ownBlock=vs.ownBlock\/∀ g,vs'.ownBlock=some g->w.heap.size<=g
theorem StStep.trans {w w1 w2:World} {r:Nat} {vs v1 v2:Value} (h:StStep w w1 r vs v1) (k:StStep w1 w2 r v1 v2):StStep w w2 r vs v2 where
 size:=Ybu h.size k.size
 keep:=λg hg hr hv=>(k.keep g (Ya7 hg h.size) hr (by
  rcases h.own with e|e
  ·rw[e];exact hv
  ·exact λe2=>by have:=e g e2;omega)).trans (h.keep g hg hr hv)
 own:=by
  rcases k.own with e|e
  ·rcases h.own with e1|e1
   ·exact .inl (e.trans e1)
   ·exact .inr λg hg=>e1 g (e ▸ hg)
  ·exact .inr λg hg=>Ybu h.size (e g hg)
theorem StStep.below {w w':World} (hb:Below w.heap.size w w') (r:Nat) (vs:Value):StStep w w' r vs vs:=⟨hb.size,λg hg _ _=>hb.block g hg,.inl rfl⟩
theorem StStep.set {w w2 w3:World} {r:Nat} {vs v':Value} (hb:Below w.heap.size w w2) (hg:w2.grownBy w3 vs.ownBlock) (ho:v'.ownBlock=vs.ownBlock\/v'.ownBlock=some w2.heap.size):StStep w (w3.setCell ⟨r,4,none⟩ v') r vs v' where
 size:=by rw[Zai];exact Ybu hb.size hg.size
 keep:=λg hl hr hv=>by
  rw[Zad _ _ _ hr,hg.block g (Ya7 hl hb.size) (λe=>hv e.symm)];exact hb.block g hl
 own:=by
  rcases ho with e|e
  ·exact .inl e
  ·refine .inr λg hg=>?_
   rw[e]at hg;cases hg
   exact hb.size
theorem StStep.blk {w w':World} {r:Nat} {vs vs':Value} (h:StStep w w' r vs vs') {g:Nat} {t:TypeId} {cs:Array Value} (hb:Blk w g t cs) (hr:g≠r) (hv:vs.ownBlock≠some g):Blk w' g t cs:=hb.same (h.keep g hb.lt hr hv)
def Qev (w0 w:World) (r b:Nat) (at_ before behind:List Int) (st:List (Nat×Nat)) (va vb vc vs:Value) (e:Ending) (w':World):Prop:=
 e=.returned (.tuple #[])/\∃ vs',IsRow w0 w' r b at_ before behind st va vb vc vs'/\StStep w w' r vs vs'
def Zs6 (M:List Mg) (at_ behind:List Int) (place:Int) (s:Option (Nat×Nat)):Prop:=Zp7 M at_ behind place (s.map (·.1))/\∀ k p,s=some (k,p)->place=p
theorem Zm7 (w0 w:World) (r b:Nat) (V:Voc) (hC:Coder w0 b V) {at_ before behind:List Int} {st:List (Nat×Nat)} {va vb vc vs:Value} (hR:IsRow w0 w r b at_ before behind st va vb vc vs) (hsort:st.Pairwise gtS) {place:Int} {s:Option (Nat×Nat)} (hs:Zs6 V.mer at_ behind place s)
  (hmem:∀ x,s=some x->st[idxS st x]?=some x):
  Calls Tryz.prog 116 #[at0 r,.int .i64 place] w (Qev w0 w r b at_ before behind (dropO st s) va vb vc vs):=by
 have hstep:=Zjd w0 w r b V (hC.below hR.below) ⟨va,vb,vc,vs,hR⟩ hs.1;have hI:=hR;have HR:=Zh hI;clear hR;have hsm:=hI.small.2.2.2;have HS:=Zh hstep;have HP:=Zh hs.2;have HM:=Zh hmem;have HSO:=Zh hsort;clear hstep hC hs hmem hsort hI;unfold at0;go_enter Tryz.func116,Tryz.ntmps116;cases s with
 | none=>
  go_wp2_with (go_at_call 113;refine HS.out.mono ?_;rintro e w1 ⟨x,y,rfl,hk,hb⟩;have HB:=Zh hb;clear hb hk);go_end0;exact⟨rfl,vs,(HR.out.then HB.out).then ((Ybm _ w1).alloc (Yar _) _),.below (Zaa HB.out ((Ybm _ w1).alloc (Yar _) _) HB.out.size) _ _⟩
 | some sp=>
  obtain⟨k,p⟩:=sp;obtain rfl:place=p:=HP.out k p rfl;have hM:=HM.out (k,p) rfl;obtain⟨I,hI⟩:=Ze (idxS st (k,p));rw[<- hI]at hM;have hIl:I<st.length:=(Ybb.1 hM).1;have hI0:(I:Int)<=1048576:=by omega
  have HI:=Zh hI;have hds:Zhu st (k,p)=st.take I++st.drop (I+1):=by unfold Zhu;rw[hI]
  have HD:=Zh hds;clear hI hM hds;go_wp2_with fail;refine HS.out.mono ?_;rintro e w1 ⟨x,y,rfl,hk,hb⟩;obtain⟨rfl,rfl⟩:=hk k rfl;have b1:Below w1.heap.size w1 (w1.alloc (.cells #[.int .i64 k,.int .i64 p] 201)):=(Ybm _ w1).alloc (Yar _) _;have HB:=Zh ((HR.out.then hb).then b1);have HK:=Zh (Zaa hb b1 hb.size);have hcells:=Blk.new w1 201 #[.int .i64 k,.int .i64 p];have s0:=hcells.cell 0;have s1:=hcells.cell 1;simp only[lz0,lz1,lz2]at s0 s1;clear hb b1 hcells hk;go_wp2_with fail;refine(Zg3 w0 _ r b ⟨va,vb,vc,vs,HB.out⟩ HSO.out (k,p)).mono ?_;rintro e w2 ⟨rfl,hb2⟩;rw[<- HI.out];have hR2:=HB.out.then hb2
  have g4:w2.cell? ⟨r,4,none⟩=some vs:=by have:=hR2.blk.cell 4;simpa using this
  have HR2:=Zh hR2;have HK2:=Zh (Zaa HK.out hb2 HK.out.size);clear hb2 hR2 s0 s1;go_wp2_with fail;refine(Qdf w2 w0.heap.size vs st.length (st.flatMap stV) HR2.out.stR (Zhk st) I hIl hsm).mono ?_;rintro e w3 ⟨v',rfl,hown,hg,hloc⟩;have hst:(Zhu st (k,p)).length=st.length-1:=by rw[HD.out,Yaq,Ycc,Yas];omega
  have hcs:(st.flatMap stV).take (I*2)++(st.flatMap stV).drop (I*2+2)=(Zhu st (k,p)).flatMap stV:=by
   rw[HD.out,Ybg,Zmx,show I*2+2=(I+1)*2 by omega,Znl]
  rw[hcs,<- hst]at hown;obtain⟨A3,c3,rfl⟩:=Zac hown;have hfin:=HR2.out.setSt hown hg (by omega) (λs hs=>HR2.out.stF s (by
   rw[HD.out]at hs;rcases Ybj.1 hs with h|h
   ·exact Yce h
   ·exact Ycf h))
  have hb3:Blk w3 r 130 #[at0 b,va,vb,vc,vs]:=HR2.out.blk.grown hg (λe=>Zah HR2.out.stR HR2.out.blk (by decide) e.symm);have e4:w3.cell? ⟨r,4,none⟩=some vs:=by have:=hb3.cell 4;simpa using this
  have z4:=hb3.frozen 4;have HF:=Zh hfin;have HKF:=Zh (StStep.set (r:=r) HK2.out hg (.inl hloc));clear hown hg hloc hst hcs hfin hb3 g4;go_wp2_with fail;go_end0;exact⟨rfl,_,HF.out,HKF.out⟩
end
section
section
variable {n:Nat} {l:List Int} {qs:List Nat} {at_ before behind:List Int}
theorem RowOK.stepAt (h:RowOK n l qs at_ before behind) {M:List Mg} {j p:Nat} (hp:qs[j]?=some p) (hj:j<l.length):Zs6 M at_ behind p (Za5 M l qs j):=by
 refine⟨?_,λk p' e=>?_⟩
 ·rcases Yab (j+1) l.length with h1|h1
  ·obtain⟨q,hq⟩:=h.get (i:=j+1) (by omega)
   have ha:l[j]?=some (l[j]'hj):=Yax _;have hb:l[j+1]?=some (l[j+1]'h1):=Yax _;have e:(Za5 M l qs j).map (·.1)=rkOf M (l[j]'hj) (l[j+1]'h1):=by
    unfold Za5;rw[hp,Zpq ha hb];cases rkOf M (l[j]'hj) (l[j+1]'h1)<;>rfl
   rw[e];exact .pair p q _ _ (h.beh j p q hp hq) (by rw[h.atL];exact h.lt h1 hq) (h.tok j _ p ha hp) (h.tok (j+1) _ q hb hq)
  ·have e:Za5 M l qs j=none:=by
    unfold Za5;rw[hp,Zg1 h1]
   rw[e];have hlast:=h.last;rw[show l.length=j+1 by omega]at hlast;refine .stop p ?_;rw[h.atL];exact h.beh j p n hp hlast
 ·have:=(stepOf_some.1 e).1
  rw[hp]at this;cases this
  rfl
theorem RowOK.ahead (h:RowOK n l qs at_ before behind) {i p:Nat} (hp:qs[i]?=some p) (hi:i<l.length) (M:List Mg):∃ pa:Int,before[p]?=some pa/\Zs6 M at_ behind pa (Zaw M l qs i):=by
 cases i with
 | zero=>
  have:p=0:=by have:=h.first;rw[hp]at this;cases this;rfl
  subst this;exact⟨-1,h.bef0,.neg,λk p e=>by cases e⟩
 | succ j=>
  obtain⟨r,hr⟩:=h.get (i:=j) (by omega);exact⟨r,h.bef j r p hr hp,h.stepAt hr (by omega)⟩
theorem RowOK.step_small (h:RowOK n l qs at_ before behind) {M:List Mg} {j:Nat} {x:Nat×Nat} (hx:Za5 M l qs j=some x):x.1<M.length/\x.2<=n:=by
 obtain⟨h1,h2⟩:=stepOf_some.1 hx;obtain⟨a,b,_,_,h3⟩:=Zci h2;exact⟨(Zf3 h3).1,h.le h1⟩
end
theorem Zpr (st:List (Nat×Nat)) (o:Option (Nat×Nat)):(dropO st o).length<=st.length:=by
 cases o with
 | none=>exact Yar _
 | some s=>show(Zhu st s).length<=_;unfold Zhu;rw[Yaq,Ycc,Yas];omega
theorem Zu0 {st:List (Nat×Nat)} {S:Nat×Nat->Prop} (h:StOK st S) {s:Nat×Nat} (hs:S s):(dropO st (some s)).length+1=st.length:=by
 have:=(Ybb.1 (h.at_ hs)).1
 show(Zhu st s).length+1=_;unfold Zhu;rw[Yaq,Ycc,Yas];omega
theorem Zs1 (st:List (Nat×Nat)) (o:Option (Nat×Nat)):(addO st o).length<=st.length+1:=by
 cases o with
 | none=>exact Nat.le_succ _
 | some s=>
  have:=Zxo st s
  show(addS st s).length<=_;unfold addS;rw[Yaq,Yah,Ycc,Yas];omega
end
section
open Go.RowKit Go.Maps Go.WideMaps
theorem Zq0 {w:World} {base:Nat} {e:TypeId} {ad:Addr} {n c:Nat} {xs:List Value} (h:w.ownsRow base e 1 (.slice (some ad) n c) n xs) (p:Nat) (u:Value):(w.setCell (ad.add p) u).ownsRow base e 1 (.slice (some ad) n c) n (xs.set p u):=by
 rcases h.2 with⟨h1,_⟩|⟨g,cap,cur,h1,hb,hblk,hnc,hcm,hcs,hx⟩
 ·cases h1
 ·simp only[Value.slice.injEq,Option.some.injEq,true_and]at h1
  obtain⟨rfl,rfl⟩:=h1;rw[Zaz];have hB:Blk w g e cur:=hblk;refine Ze0 (hB.set_ p u) hb hnc hcm (by simpa using hcs) ?_;rw[<- hx,Array.toList_setIfInBounds,List.take_set]
theorem Zor {w:World} {base:Nat} {e:TypeId} {ad:Addr} {n c:Nat} {xs:List Value} (h:w.ownsRow base e 1 (.slice (some ad) n c) n xs):(∃ g,ad=⟨g,0,none⟩)/\∀ p,w.frozen? (ad.add p)=false:=by
 rcases h.2 with⟨h1,_⟩|⟨g,cap,cur,h1,hb,hblk,hnc,hcm,hcs,hx⟩
 ·cases h1
 ·simp only[Value.slice.injEq,Option.some.injEq,true_and]at h1
  obtain⟨rfl,rfl⟩:=h1;exact⟨⟨g,rfl⟩,λp=>by rw[Zaz];exact Blk.frozen hblk p⟩
theorem map_set (l:List Int) (p:Nat) (x:Int):(l.map i64V).set p (.int .i64 x)=(l.set p x).map i64V:=by
 rw[List.map_set];rfl
theorem Znw {l:List Int} (h:∀ x∈l,Zaj x) (p:Nat) {x:Int} (hx:Zaj x):∀ y∈l.set p x,Zaj y:=λy hy=>by
 rcases List.mem_or_eq_of_mem_set hy with h1|h1
 ·exact h y h1
 ·rw[h1];exact hx
theorem Zct (ad:Addr) (p:Nat):(ad.add p).block=ad.block:=by unfold Addr.add;split<;>rfl
section
variable {w0 w:World} {r b:Nat} {at_ before behind:List Int} {st:List (Nat×Nat)} {va vb vc vs:Value} {ad:Addr} {c p:Nat} {x:Int}
theorem IsRow.setAt (h:IsRow w0 w r b at_ before behind st (.slice (some ad) at_.length c) vb vc vs) (hx:Zaj x):
  IsRow w0 (w.setCell (ad.add p) (.int .i64 x)) r b (at_.set p x) before behind st (.slice (some ad) at_.length c) vb vc vs:=by
 have hb:=(h.atR.lt ad.block rfl).1;have oth:∀ {e:TypeId} {size m:Nat} {v:Value} {xs:List Value},w.ownsRow w0.heap.size e size v m xs->v.ownBlock≠some ad.block->(w.setCell (ad.add p) (.int .i64 x)).ownsRow w0.heap.size e size v m xs:=λhv hne=>
  Zab hv λg e=>Zad _ _ _ (by rw[Zct];exact λe2=>hne (by rw[e,e2]))
 exact {
  blk:=h.blk.far (by rw[Zct];exact λe=>Zah h.atR h.blk (by decide) (by rw[e];rfl)) _
  new:=h.new
  below:=h.below.setCell (by rw[Zct];exact hb) _
  atR:=by
   have:=Zq0 h.atR p (.int .i64 x)
   rw[map_set]at this;rw[Ybp];exact this
  befR:=oth h.befR (h.nab _ rfl)
  behR:=oth h.behR (h.nac _ rfl)
  stR:=oth h.stR (Za7 h.atR h.stR (by decide) _ rfl)
  nab:=h.nab
  nac:=h.nac
  nbc:=h.nbc
  fits:=⟨Znw h.fits.1 p hx,h.fits.2⟩
  small:=by rw[Ybp];exact h.small
  stF:=h.stF }
theorem IsRow.setBef (h:IsRow w0 w r b at_ before behind st va (.slice (some ad) before.length c) vc vs) (hx:Zaj x):
  IsRow w0 (w.setCell (ad.add p) (.int .i64 x)) r b at_ (before.set p x) behind st va (.slice (some ad) before.length c) vc vs:=by
 have hb:=(h.befR.lt ad.block rfl).1;have oth:∀ {e:TypeId} {size m:Nat} {v:Value} {xs:List Value},w.ownsRow w0.heap.size e size v m xs->v.ownBlock≠some ad.block->(w.setCell (ad.add p) (.int .i64 x)).ownsRow w0.heap.size e size v m xs:=λhv hne=>
  Zab hv λg e=>Zad _ _ _ (by rw[Zct];exact λe2=>hne (by rw[e,e2]))
 exact {
  blk:=h.blk.far (by rw[Zct];exact λe=>Zah h.befR h.blk (by decide) (by rw[e];rfl)) _
  new:=h.new
  below:=h.below.setCell (by rw[Zct];exact hb) _
  atR:=oth h.atR (λe=>h.nab _ e rfl)
  befR:=by
   have:=Zq0 h.befR p (.int .i64 x)
   rw[map_set]at this;rw[Ybp];exact this
  behR:=oth h.behR (h.nbc _ rfl)
  stR:=oth h.stR (Za7 h.befR h.stR (by decide) _ rfl)
  nab:=h.nab
  nac:=h.nac
  nbc:=h.nbc
  fits:=⟨h.fits.1,Znw h.fits.2.1 p hx,h.fits.2.2⟩
  small:=by rw[Ybp];exact h.small
  stF:=h.stF }
theorem IsRow.setBeh (h:IsRow w0 w r b at_ before behind st va vb (.slice (some ad) behind.length c) vs) (hx:Zaj x):
  IsRow w0 (w.setCell (ad.add p) (.int .i64 x)) r b at_ before (behind.set p x) st va vb (.slice (some ad) behind.length c) vs:=by
 have hb:=(h.behR.lt ad.block rfl).1;have oth:∀ {e:TypeId} {size m:Nat} {v:Value} {xs:List Value},w.ownsRow w0.heap.size e size v m xs->v.ownBlock≠some ad.block->(w.setCell (ad.add p) (.int .i64 x)).ownsRow w0.heap.size e size v m xs:=λhv hne=>
  Zab hv λg e=>Zad _ _ _ (by rw[Zct];exact λe2=>hne (by rw[e,e2]))
 exact {
  blk:=h.blk.far (by rw[Zct];exact λe=>Zah h.behR h.blk (by decide) (by rw[e];rfl)) _
  new:=h.new
  below:=h.below.setCell (by rw[Zct];exact hb) _
  atR:=oth h.atR (λe=>h.nac _ e rfl)
  befR:=oth h.befR (λe=>h.nbc _ e rfl)
  behR:=by
   have:=Zq0 h.behR p (.int .i64 x)
   rw[map_set]at this;rw[Ybp];exact this
  stR:=oth h.stR (Za7 h.behR h.stR (by decide) _ rfl)
  nab:=h.nab
  nac:=h.nac
  nbc:=h.nbc
  fits:=⟨h.fits.1,h.fits.2.1,Znw h.fits.2.2 p hx⟩
  small:=by rw[Ybp];exact h.small
  stF:=h.stF }
theorem IsRow.cl {va:Value} (h:IsRow w0 w r b at_ before behind st va vb vc vs):w.cell? ⟨r,0,none⟩=some (.pointer (some ⟨b,0,none⟩))/\w.cell? ⟨r,1,none⟩=some va/\w.cell? ⟨r,2,none⟩=some vb/\w.cell? ⟨r,3,none⟩=some vc/\w.cell? ⟨r,4,none⟩=some vs:=by
 have h0:=h.blk.cell 0;have h1:=h.blk.cell 1;have h2:=h.blk.cell 2;have h3:=h.blk.cell 3;have h4:=h.blk.cell 4;unfold at0 at h0;exact⟨by simpa using h0,by simpa using h1,by simpa using h2,by simpa using h3,by simpa using h4⟩
end
theorem Zbz {w:World} {base:Nat} {ad:Addr} {n c:Nat} {l:List Int} (h:w.ownsRow base 3 1 (.slice (some ad) n c) n (l.map i64V)) {p:Nat} {x:Int} (hx:l[p]?=some x):w.cell? (ad.add p)=some (.int .i64 x)/\w.frozen? (ad.add p)=false:=
 ⟨(Zbj h).cells ad rfl p (.int .i64 x) (by rw[Ych,hx];rfl),(Zor h).2 p⟩
end
section
open Go.RowKit Go.Maps Go.WideMaps
section
variable {w0 w w2:World} {r b:Nat} {at_ before behind:List Int} {st:List (Nat×Nat)} {va vb vc vs v':Value} {x:Int}
theorem Zdc {base:Nat} {va v u:Value} {i:Nat} {e:TypeId} {size m:Nat} {xs:List Value} (hg:w.grownBy w2 va.ownBlock) (hv:w.ownsRow base e size v m xs) (hne:∀ g,v.ownBlock=some g->va.ownBlock≠some g) (hnr:v.ownBlock≠some r):(w2.setCell ⟨r,i,none⟩ u).ownsRow base e size v m xs:=
 Zab hv λg e=>by
  rw[Zad _ _ _ (λe2=>hnr (by rw[e,e2]))];exact hg.block g (hv.lt g e).2 (λe2=>hne g e e2.symm)
theorem Zj3 (l:List Int) (x:Int):l.map i64V++[.int .i64 x]=(l++[x]).map i64V:=by rw[Ybe];rfl
theorem IsRow.pushAt (h:IsRow w0 w r b at_ before behind st va vb vc vs) (hown:w2.ownsRow w0.heap.size 3 1 v' (at_.length+1) (at_.map i64V++[.int .i64 x])) (hg:w.grownBy w2 va.ownBlock) (hloc:v'.ownBlock=va.ownBlock\/v'.ownBlock=some w.heap.size) (hx:Zaj x) (hl:at_.length<1048576):
  IsRow w0 (w2.setCell ⟨r,1,none⟩ v') r b (at_++[x]) before behind st v' vb vc vs:=by
 have hnr:va.ownBlock≠some r:=Zah h.atR h.blk (by decide);have hblk2:Blk w2 r 130 #[at0 b,va,vb,vc,vs]:=h.blk.grown hg (λe=>hnr e.symm);have new:∀ {e:TypeId} {size m:Nat} {v:Value} {xs:List Value},w.ownsRow w0.heap.size e size v m xs->(∀ g,va.ownBlock=some g->v.ownBlock≠some g)->∀ g,v'.ownBlock=some g->v.ownBlock≠some g:=λhv hne g hg'=>by
  rcases hloc with e|e
  ·exact hne g (e ▸ hg')
  ·rw[e]at hg'
   cases hg'
   exact λe2=>by have:=(hv.lt _ e2).2;omega
 exact {
  blk:=by have:=hblk2.set_ 1 v';simpa using this
  new:=h.new
  below:=(h.below.grown hg h.below.size (λk e=>(h.atR.lt k e).1)).setCell h.new _
  atR:=by
   rw[Yaq,Yae,<- Zj3];exact Zab hown λg e=>Zad _ _ _ λe2=>Zah hown hblk2 (by decide) (by rw[e,e2])
  befR:=Zdc hg h.befR (λg e e2=>h.nab g e2 e) (Zah h.befR h.blk (by decide))
  behR:=Zdc hg h.behR (λg e e2=>h.nac g e2 e) (Zah h.behR h.blk (by decide))
  stR:=Zdc hg h.stR (Za7 h.stR h.atR (by decide)) (Zah h.stR h.blk (by decide))
  nab:=new h.befR h.nab
  nac:=new h.behR h.nac
  nbc:=h.nbc
  fits:=⟨λy hy=>by
   rcases Ybj.1 hy with h1|h1
   ·exact h.fits.1 y h1
   ·rw[Ybi.1 h1];exact hx,h.fits.2⟩
  small:=⟨by rw[Yaq,Yae];omega,h.small.2⟩
  stF:=h.stF }
theorem IsRow.pushBef (h:IsRow w0 w r b at_ before behind st va vb vc vs) (hown:w2.ownsRow w0.heap.size 3 1 v' (before.length+1) (before.map i64V++[.int .i64 x])) (hg:w.grownBy w2 vb.ownBlock) (hloc:v'.ownBlock=vb.ownBlock\/v'.ownBlock=some w.heap.size) (hx:Zaj x) (hl:before.length<1048576):
  IsRow w0 (w2.setCell ⟨r,2,none⟩ v') r b at_ (before++[x]) behind st va v' vc vs:=by
 have hnr:vb.ownBlock≠some r:=Zah h.befR h.blk (by decide);have hblk2:Blk w2 r 130 #[at0 b,va,vb,vc,vs]:=h.blk.grown hg (λe=>hnr e.symm);have new:∀ {e:TypeId} {size m:Nat} {v:Value} {xs:List Value},w.ownsRow w0.heap.size e size v m xs->(∀ g,vb.ownBlock=some g->v.ownBlock≠some g)->∀ g,v'.ownBlock=some g->v.ownBlock≠some g:=λhv hne g hg'=>by
  rcases hloc with e|e
  ·exact hne g (e ▸ hg')
  ·rw[e]at hg'
   cases hg'
   exact λe2=>by have:=(hv.lt _ e2).2;omega
 exact {
  blk:=by have:=hblk2.set_ 2 v';simpa using this
  new:=h.new
  below:=(h.below.grown hg h.below.size (λk e=>(h.befR.lt k e).1)).setCell h.new _
  atR:=Zdc hg h.atR (λg e=>h.nab g e) (Zah h.atR h.blk (by decide))
  befR:=by
   rw[Yaq,Yae,<- Zj3];exact Zab hown λg e=>Zad _ _ _ λe2=>Zah hown hblk2 (by decide) (by rw[e,e2])
  behR:=Zdc hg h.behR (λg e e2=>h.nbc g e2 e) (Zah h.behR h.blk (by decide))
  stR:=Zdc hg h.stR (Za7 h.stR h.befR (by decide)) (Zah h.stR h.blk (by decide))
  nab:=λg e e2=>new h.atR (λg e3 e4=>h.nab g e4 e3) g e2 e
  nac:=h.nac
  nbc:=new h.behR h.nbc
  fits:=⟨h.fits.1,λy hy=>by
   rcases Ybj.1 hy with h1|h1
   ·exact h.fits.2.1 y h1
   ·rw[Ybi.1 h1];exact hx,h.fits.2.2⟩
  small:=⟨h.small.1,by rw[Yaq,Yae];omega,h.small.2.2⟩
  stF:=h.stF }
theorem IsRow.pushBeh (h:IsRow w0 w r b at_ before behind st va vb vc vs) (hown:w2.ownsRow w0.heap.size 3 1 v' (behind.length+1) (behind.map i64V++[.int .i64 x])) (hg:w.grownBy w2 vc.ownBlock) (hloc:v'.ownBlock=vc.ownBlock\/v'.ownBlock=some w.heap.size) (hx:Zaj x) (hl:behind.length<1048576):
  IsRow w0 (w2.setCell ⟨r,3,none⟩ v') r b at_ before (behind++[x]) st va vb v' vs:=by
 have hnr:vc.ownBlock≠some r:=Zah h.behR h.blk (by decide);have hblk2:Blk w2 r 130 #[at0 b,va,vb,vc,vs]:=h.blk.grown hg (λe=>hnr e.symm);have new:∀ {e:TypeId} {size m:Nat} {v:Value} {xs:List Value},w.ownsRow w0.heap.size e size v m xs->(∀ g,vc.ownBlock=some g->v.ownBlock≠some g)->∀ g,v'.ownBlock=some g->v.ownBlock≠some g:=λhv hne g hg'=>by
  rcases hloc with e|e
  ·exact hne g (e ▸ hg')
  ·rw[e]at hg'
   cases hg'
   exact λe2=>by have:=(hv.lt _ e2).2;omega
 exact {
  blk:=by have:=hblk2.set_ 3 v';simpa using this
  new:=h.new
  below:=(h.below.grown hg h.below.size (λk e=>(h.behR.lt k e).1)).setCell h.new _
  atR:=Zdc hg h.atR (λg e=>h.nac g e) (Zah h.atR h.blk (by decide))
  befR:=Zdc hg h.befR (λg e=>h.nbc g e) (Zah h.befR h.blk (by decide))
  behR:=by
   rw[Yaq,Yae,<- Zj3];exact Zab hown λg e=>Zad _ _ _ λe2=>Zah hown hblk2 (by decide) (by rw[e,e2])
  stR:=Zdc hg h.stR (Za7 h.stR h.behR (by decide)) (Zah h.stR h.blk (by decide))
  nab:=h.nab
  nac:=λg e e2=>new h.atR (λg e3 e4=>h.nac g e4 e3) g e2 e
  nbc:=λg e e2=>new h.befR (λg e3 e4=>h.nbc g e4 e3) g e2 e
  fits:=⟨h.fits.1,h.fits.2.1,λy hy=>by
   rcases Ybj.1 hy with h1|h1
   ·exact h.fits.2.2 y h1
   ·rw[Ybi.1 h1];exact hx⟩
  small:=⟨h.small.1,h.small.2.1,by rw[Yaq,Yae];omega,h.small.2.2.2⟩
  stF:=h.stF }
theorem IsRow.sorted {st':List (Nat×Nat)} (h:IsRow w0 w r b at_ before behind st va vb vc vs) (hown:w2.ownsRow w0.heap.size 201 2 vs st'.length (st'.flatMap stV)) (hg:w.grownBy w2 vs.ownBlock) (hl:st'.length<=1048576) (hF:∀ s∈st',s.1<=1048576/\s.2<=1048576):
  IsRow w0 w2 r b at_ before behind st' va vb vc vs:=by
 have oth:∀ {v:Value} {l:List Int},w.ownsRow w0.heap.size 3 1 v l.length (l.map i64V)->w2.ownsRow w0.heap.size 3 1 v l.length (l.map i64V):=λhv=>
  Zab hv λg e=>hg.block g (hv.lt g e).2 (λe2=>Za7 hv h.stR (by decide) g e e2.symm)
 exact {
  blk:=h.blk.grown hg (λe=>Zah h.stR h.blk (by decide) e.symm)
  new:=h.new
  below:=h.below.grown hg h.below.size (λk e=>(h.stR.lt k e).1)
  atR:=oth h.atR
  befR:=oth h.befR
  behR:=oth h.behR
  stR:=hown
  nab:=h.nab
  nac:=h.nac
  nbc:=h.nbc
  fits:=h.fits
  small:=⟨h.small.1,h.small.2.1,h.small.2.2.1,hl⟩
  stF:=hF }
end
end
section
open Go.RowKit Go.Maps Go.WideMaps
theorem Zjj {w:World} {t:TypeId} {x:Value} {H:Nat} (hH:w.heap.size=H):∀ (j:Nat) (u:Value),[x][j]?=some u->(w.alloc (.cells #[x] t)).cell? ((⟨H,0,none⟩:Addr).add j)=some u:=hH ▸ Zb9
def Qau (w:World) (l:List Int) (e:Ending) (w':World):Prop:=∃ v,e=.returned v/\w'.ownsRow w.heap.size 3 1 v l.length (l.map i64V)/\Below w.heap.size w w'
theorem Qbe (w0 w:World) (r b:Nat) {n:Nat} {l:List Int} {qs:List Nat} {at_ before behind:List Int} {st:List (Nat×Nat)} (hR:Row w0 w r b at_ before behind st) (hO:RowOK n l qs at_ before behind) (hn:n<=1000000):
  Calls Tryz.prog 63 #[at0 r] w (Qau w l):=by
 obtain⟨i0,hi,hz0,hz1,hz2⟩:=info_parts Zgv;obtain⟨va,vb,vc,vs,hR⟩:=hR;obtain⟨Aa,ca,rfl⟩:=Zac hR.atR;have HR:=Zh hR;have HO:=Zh hO;have hlm:l.length<=n:=by
  have:∀ (j p:Nat),qs[j]?=some p->j<=p:=by
   intro j
   induction j with
   | zero=>intro p _;omega
   | succ j ih=>
    intro p hp;obtain⟨q,hq⟩:=hO.get (i:=j) (by have:=(Ybb.1 hp).1;rw[hO.len]at this;omega);have h1:=ih q hq;have h2:=hO.inc j (j+1) q p (by omega) hq hp;omega
  exact this _ _ hO.last
 have hAL:=hO.atL;have HAL:=Zh hAL;have HF0:=Zh hO.first
 clear hR hO hAL;unfold at0;go_enter Tryz.func63,Tryz.ntmps63;go_wp2_with fail;go_loopw [3,4] (λv i wr=>∃ j q,j<=l.length/\qs[j]?=some q/\i=.int .i64 (q:Nat)/\wr.ownsRow w.heap.size 3 1 v j ((l.take j).map i64V)/\Below w.heap.size w wr) (λ_ i _=>n-(intOf i).toNat);case atStart=>exact⟨0,0,Ybd _,HF0.out,rfl,by rw[List.take_zero];exact Yb2 _ _ _ _,Ybm _ _⟩
 case round=>
  obtain⟨j,q,hj,hq,rfl,hown,hB⟩:=hrel;have hRr:=HR.out.then hB
  obtain⟨_,g1,_,g3,_⟩:=hRr.cl;rw[HAL.out]at g1;rcases Yab j l.length with hlt|hge
  ·obtain⟨q2,hq2⟩:=HO.out.get (i:=j+1) (by omega)
   have hqn:q<n:=HO.out.lt hlt hq;have hq2n:=HO.out.le hq2;have hqq:=HO.out.inc j (j+1) q q2 (by omega) hq hq2;have hx:l[j]?=some (l[j]'hlt):=Yax hlt;obtain⟨x,hxe⟩:=Ze (l[j]'hlt);rw[<- hxe]at hx;have htk:(l.take (j+1)).map i64V=(l.take j).map i64V++[.int .i64 x]:=by rw[Ya5,hx,Ybe];rfl
   obtain⟨ada,c2,e1,x1,_⟩:=Zb2 hRr.atR (HO.out.tok j x q hx hq);simp only[Value.slice.injEq,true_and]at e1;obtain⟨rfl,rfl⟩:=e1;obtain⟨adc,c3,rfl,x3,_⟩:=Zb2 hRr.behR (HO.out.beh j q q2 hq hq2);have hbl:behind.length=n:=HO.out.behL;have HBL:=Zh hbl;have HBQ:=Zh (HO.out.beh j q q2 hq hq2);rw[hbl]at g3;have hq0:(0:Int)<=(q:Int):=by omega
   have hqN:(q:Int)<(n:Int):=by omega
   have HOWN:=Zh hown;have HB:=Zh hB;have HTK:=Zh htk;have HQ2:=Zh hq2;have HRR:=Zh hRr;have HX3:=Zh x3;have HG3:=Zh g3;clear hown hB htk hx hxe hbl hRr x3 g3 hq2;go_wp2_with (at_builtin;refine wpList_append_own_at _ rfl _ _ 52 rfl w.heap.size 3 i0 (.int .i64 0) 1 8 Tryz.underlying52 hi hz0 hz1 hz2 rfl (by decide) _ j _ rfl (HOWN.out.alloc _) ⟨wr.heap.size,0,none⟩ 1 1 [.int .i64 x] rfl rfl Zb9 (by simp[Value.oneCell']) (by unfold maxLen;omega) (by omega) (by simp;have:=HB.out.size;omega) ?_;intro v' w2 hown' hg2 hnil hloc;obtain⟨A2,c2,hv⟩:=Zac hown';rw[hv];clear hnil hloc;have HV:=Zh hv;clear hv;have hb2:Below w.heap.size wr w2:=(((Ybm _ wr).alloc HB.out.size _).grown hg2 (by simp;have:=HB.out.size;omega) (λk e=>(HOWN.out.lt k e).1));have HB2:=Zh (HB.out.trans hb2);have hr2:=HR.out.then HB2.out;have f3:=hr2.cl.2.2.2.1;rw[HBL.out]at f3;have y3:=(Zbz hr2.behR HBQ.out).1;have HOWN2:=Zh hown';clear hown' hg2 hb2 hr2);go_roundw;case rel=>exact⟨j+1,q2,by omega,HQ2.out,rfl,by rw[HTK.out,<- HV.out];exact HOWN2.out,HB2.out⟩
   case measure=>simp[intOf];omega
  ·obtain rfl:j=l.length:=by omega
   obtain rfl:q=n:=by have:=HO.out.last;rw[hq]at this;exact Ya9 this
   obtain⟨A3,c3,rfl⟩:=Zac hown;rw[Ya6]at hown;have HOWN:=Zh hown;have HB:=Zh hB;clear hown hB hRr g3;go_wp2;go_ret;exact⟨_,rfl,HOWN.out,HB.out⟩
theorem Zam {w:World} {g:Nat} {t:TypeId} {x y:Value} (h:Blk w g t #[x,y]):w.cell? ⟨g,0,none⟩=some x/\w.cell? ⟨g,1,none⟩=some y:=by
 have h0:=h.cell 0;have h1:=h.cell 1;simp only[lz0,lz1,lz2]at h0 h1;exact⟨h0,h1⟩
theorem Zzo (w0 w:World) (r b:Nat) (V:Voc) (hC:Coder w0 b V) {at_ before behind:List Int} {st:List (Nat×Nat)} {va vb vc vs:Value} (hR:IsRow w0 w r b at_ before behind st va vb vc vs) (hsort:st.Pairwise gtS) {place:Int} {s:Option (Nat×Nat)} (hs:Zs6 V.mer at_ behind place s)
  (hlen:st.length<1048576) (hsm:∀ x,s=some x->x.1<=1048576/\x.2<=1048576):
  Calls Tryz.prog 117 #[at0 r,.int .i64 place] w (Qev w0 w r b at_ before behind (addO st s) va vb vc vs):=by
 have hstep:=Zjd w0 w r b V (hC.below hR.below) ⟨va,vb,vc,vs,hR⟩ hs.1;have hI:=hR;clear hR;have HR:=Zh hI;have HS:=Zh hstep;have HP:=Zh hs.2;have HSM:=Zh hsm;have HSO:=Zh hsort;have HSF:=Zh hI.stF;clear hstep hC hs hsm hsort hI;unfold at0;go_enter Tryz.func117,Tryz.ntmps117;cases s with
 | none=>
  go_wp2_with (go_at_call 113;refine HS.out.mono ?_;rintro e w1 ⟨x,y,rfl,hk,hb⟩;have HB:=Zh hb;clear hb hk);go_end0;exact⟨rfl,vs,(HR.out.then HB.out).then ((Ybm _ w1).alloc (Yar _) _),.below (Zaa HB.out ((Ybm _ w1).alloc (Yar _) _) HB.out.size) _ _⟩
 | some sp=>
  obtain⟨k,p⟩:=sp;obtain rfl:place=p:=HP.out k p rfl;have hkp:=HSM.out (k,p) rfl;obtain⟨I,hI⟩:=Ze (idxS st (k,p));have hIl:I<=st.length:=by rw[hI];exact Zxo _ _
  have hds:(st.flatMap stV).take (I*2)++[.int .i64 k,.int .i64 p]++(st.flatMap stV).drop (I*2)=(addS st (k,p)).flatMap stV:=by
   unfold addS;rw[<- hI,Ybg,Yan,Zmx,Znl,Yao];rfl
  have hll:(addS st (k,p)).length=st.length+1:=by
   unfold addS;rw[<- hI,Yaq,Yah,Ycc,Yas];omega
  have HF:Hid (∀ s∈addS st (k,p),s.1<=1048576/\s.2<=1048576):=Zh (λs hs=>by
   unfold addS at hs;rcases Ybj.1 hs with h|h
   ·exact HSF.out s (Yce h)
   ·rcases Yat.1 h with rfl|h
    ·exact hkp
    ·exact HSF.out s (Ycf h))
  have HI:=Zh hI;have HD:=Zh hds;have HL:=Zh hll;clear hI hds hll hkp;go_wp2_with fail;refine HS.out.mono ?_;rintro e w1 ⟨x,y,rfl,hk,hb⟩;obtain⟨rfl,rfl⟩:=hk k rfl;have b1:Below w1.heap.size w1 (w1.alloc (.cells #[.int .i64 k,.int .i64 p] 201)):=(Ybm _ w1).alloc (Yar _) _;obtain⟨W2,hW2⟩:=Ze (w1.alloc (.cells #[.int .i64 k,.int .i64 p] 201));have HST:Hid (Blk W2 w1.heap.size 201 #[.int .i64 k,.int .i64 p]):=Zh (by rw[hW2];exact Blk.new _ _ _);rw[<- hW2]at b1;have HNS:Hid (vs.ownBlock≠some w1.heap.size):=Zh (λe=>Ycm _ ((HR.out.then hb).stR.lt _ e).2);have HNR:Hid (w1.heap.size≠r):=Zh (λe=>by have:=(HR.out.then hb).blk.lt;omega);have HB:=Zh ((HR.out.then hb).then b1);have HK:=Zh (Zaa hb b1 hb.size);have HW2:=Zh hW2;clear hb b1 hk hW2;go_wp2_with fail;rw[<- HW2.out];refine Yb8 (S:=λw'=>w'.cell? ⟨w1.heap.size,0,none⟩=some (.int .i64 k)/\w'.cell? ⟨w1.heap.size,1,none⟩=some (.int .i64 p)) (by kernel_rfl) (Zam HST.out) (λhHeld=>?_);obtain⟨u0,hu0⟩:=Ze W2.drew;rw[<- hu0]at hHeld ⊢;have hb0:Below W2.heap.size W2 u0:=by rw[hu0];exact(Ybm _ W2).drew
  have HR0:=Zh (HB.out.then hb0);have HST0:=Zh (HST.out.below hb0 HST.out.lt);have HK0:=Zh (Zaa HK.out hb0 HK.out.size);clear hu0 hb0;refine tk 0 ?_;try simp only[Act.put,lz3,lz4,lz5]
  refine tk 1 ?_;try simp only[Act.put,lz3,lz4,lz5]
  refine tk 5 ?_;try simp only[Act.put,lz3,lz4,lz5]
  refine tk 6 ?_;try simp only[Act.put,lz3,lz4,lz5]
  refine tk 8 ?_;try simp only[Act.put,lz3,lz4,lz5]
  refine tk 2 ?_;try simp only[Act.put,lz3,lz4,lz5]
  refine tk 3 ?_;try simp only[Act.put,lz3,lz4,lz5]
  refine rd3 4 7 9 ?st8 ?st9 ?st10;case st8=>
   intro K hK;have yq1:u0.cell? ⟨r,4,none⟩=some vs:=by have:=HR0.out.blk.cell 4;simpa using this
   go_simp;clear yq1;refine hK.out _ _ (Zam HST0.out) (λht11=>?_);clear hK K;(try simp only[Act.put,lz3,lz4,lz5]);refine rd2 7 9 ?st12 ?st13;case st12=>
    intro K hK;go_simp;refine(Zg3 w0 _ r b ⟨va,vb,vc,vs,HR0.out⟩ HSO.out (k,p)).mono ?_;rintro eq7 uq2 ⟨rfl,hq3⟩;rw[<- HI.out];have Rq4:=Zh (HR0.out.then hq3);have Tq5:=Zh (HST0.out.below hq3 HST0.out.lt);have Kq8:=Zh (Zaa HK0.out hq3 HK0.out.size);clear hq3;go_wp2_with fail;refine hK.out _ _ (Zam Tq5.out) (λht14=>?_);clear hK K;(try simp only[Act.put,lz3,lz4,lz5]);refine rd1 9 ?st15;case st15=>
     intro K hK;go_simp;obtain⟨uq9,huq10⟩:=Ze (uq2.alloc (.cells #[.int .i64 k,.int .i64 p] 201));have Nq14:Hid (Blk uq9 uq2.heap.size 201 #[.int .i64 k,.int .i64 p]):=Zh (by rw[huq10];exact Blk.new _ _ _);rw[<- huq10];have hbq11:Below uq2.heap.size uq2 uq9:=by rw[huq10];exact(Ybm _ uq2).alloc (Yar _) _
     have NEq15:Hid (vs.ownBlock≠some uq2.heap.size):=Zh (λe=>Ycm _ (Rq4.out.stR.lt _ e).2);have Rq12:=Zh (Rq4.out.then hbq11);have Tq13:=Zh (Tq5.out.below hbq11 Tq5.out.lt);have Kq16:=Zh (Zaa Kq8.out hbq11 Kq8.out.size);clear huq10 hbq11;refine hK.out _ _ (Zam Tq13.out) (λht16=>?_);clear hK K;(try simp only[Act.put,lz3,lz4,lz5]);refine rd1 10 ?st17;case st17=>
      intro K hK;go_simp;refine(Zi8 _ w0.heap.size vs st.length (st.flatMap stV) Rq12.out.stR (Zhk st) I hIl (by omega) _ (.int .i64 k) (.int .i64 p) Nq14.out NEq15.out rfl rfl Rq12.out.below.size).mono ?_;rintro eq18 uq17 ⟨v',rfl,hwq19,hgq20,hlq21⟩;obtain⟨Aq24,cq25,rfl⟩:=Zac hwq19;rw[HD.out]at hwq19;have Bq22:=Zh (Rq12.out.blk.grown hgq20 (λe=>Zah Rq12.out.stR Rq12.out.blk (by decide) e.symm));have Tq23:=Zh (Tq13.out.grown hgq20 (λe=>HNS.out e.symm));have Hhwq19:=Zh hwq19;have Hhgq20:=Zh hgq20;have Hhlq21:=Zh hlq21;clear hwq19 hgq20 hlq21;go_wp2_with fail;refine hK.out _ _ (Zam Tq23.out) (λht18=>?_);clear hK K;(try simp only[Act.put,lz3,lz4,lz5]);refine tk 11 ?_;(try simp only[Act.put,lz3,lz4,lz5]);refine tk 12 ?_;(try simp only[Act.put,lz3,lz4,lz5]);refine rd1 13 ?st21;case st21=>
       intro K hK;have yq26:uq17.cell? ⟨r,4,none⟩=some vs:=by have:=Bq22.out.cell 4;simpa using this
       have zq27:=Bq22.out.frozen 4;go_simp;clear yq26 zq27;have Fq28:=Zh (Rq12.out.setSt (st':=addS st (k,p)) (vs':=(.slice Aq24 (st.length+1) cq25)) (w2:=uq17) (by rw[HL.out];exact Hhwq19.out) Hhgq20.out (by rw[HL.out];omega) HF.out);have Tq29:=Zh (Tq23.out.far (p:=⟨r,4,none⟩) HNR.out (.slice Aq24 (st.length+1) cq25));have Kq30:=Zh (StStep.set (r:=r) Kq16.out Hhgq20.out Hhlq21.out);refine hK.out _ _ (Zam Tq29.out) (λht22=>?_);clear hK K;(try simp only[Act.put,lz3,lz4,lz5]);refine Yb9 (by kernel_rfl) ?_ _;go_wp2_with fail;go_end0;exact⟨rfl,_,Fq28.out,Kq30.out⟩
   case st13=>
    intro K hK;go_simp;obtain⟨uq31,huq32⟩:=Ze (u0.alloc (.cells #[.int .i64 k,.int .i64 p] 201));have Nq36:Hid (Blk uq31 u0.heap.size 201 #[.int .i64 k,.int .i64 p]):=Zh (by rw[huq32];exact Blk.new _ _ _);rw[<- huq32];have hbq33:Below u0.heap.size u0 uq31:=by rw[huq32];exact(Ybm _ u0).alloc (Yar _) _
    have NEq37:Hid (vs.ownBlock≠some u0.heap.size):=Zh (λe=>Ycm _ (HR0.out.stR.lt _ e).2);have Rq34:=Zh (HR0.out.then hbq33);have Tq35:=Zh (HST0.out.below hbq33 HST0.out.lt);have Kq38:=Zh (Zaa HK0.out hbq33 HK0.out.size);clear huq32 hbq33;refine hK.out _ _ (Zam Tq35.out) (λht23=>?_);clear hK K;(try simp only[Act.put,lz3,lz4,lz5]);refine rd1 7 ?st24;case st24=>
     intro K hK;go_simp;refine(Zg3 w0 _ r b ⟨va,vb,vc,vs,Rq34.out⟩ HSO.out (k,p)).mono ?_;rintro eq44 uq39 ⟨rfl,hq40⟩;rw[<- HI.out];have Rq41:=Zh (Rq34.out.then hq40);have Tq42:=Zh (Tq35.out.below hq40 Tq35.out.lt);have Kq45:=Zh (Zaa Kq38.out hq40 Kq38.out.size);have Nq43:=Zh (Nq36.out.below hq40 Nq36.out.lt);clear hq40;go_wp2_with fail;refine hK.out _ _ (Zam Tq42.out) (λht25=>?_);clear hK K;(try simp only[Act.put,lz3,lz4,lz5]);refine rd1 10 ?st26;case st26=>
      intro K hK;go_simp;refine(Zi8 _ w0.heap.size vs st.length (st.flatMap stV) Rq41.out.stR (Zhk st) I hIl (by omega) _ (.int .i64 k) (.int .i64 p) Nq43.out NEq37.out rfl rfl Rq41.out.below.size).mono ?_;rintro eq47 uq46 ⟨v',rfl,hwq48,hgq49,hlq50⟩;obtain⟨Aq53,cq54,rfl⟩:=Zac hwq48;rw[HD.out]at hwq48;have Bq51:=Zh (Rq41.out.blk.grown hgq49 (λe=>Zah Rq41.out.stR Rq41.out.blk (by decide) e.symm));have Tq52:=Zh (Tq42.out.grown hgq49 (λe=>HNS.out e.symm));have Hhwq48:=Zh hwq48;have Hhgq49:=Zh hgq49;have Hhlq50:=Zh hlq50;clear hwq48 hgq49 hlq50;go_wp2_with fail;refine hK.out _ _ (Zam Tq52.out) (λht27=>?_);clear hK K;(try simp only[Act.put,lz3,lz4,lz5]);refine tk 11 ?_;(try simp only[Act.put,lz3,lz4,lz5]);refine tk 12 ?_;(try simp only[Act.put,lz3,lz4,lz5]);refine rd1 13 ?st30;case st30=>
       intro K hK;have yq55:uq46.cell? ⟨r,4,none⟩=some vs:=by have:=Bq51.out.cell 4;simpa using this
       have zq56:=Bq51.out.frozen 4;go_simp;clear yq55 zq56;have Fq57:=Zh (Rq41.out.setSt (st':=addS st (k,p)) (vs':=(.slice Aq53 (st.length+1) cq54)) (w2:=uq46) (by rw[HL.out];exact Hhwq48.out) Hhgq49.out (by rw[HL.out];omega) HF.out);have Tq58:=Zh (Tq52.out.far (p:=⟨r,4,none⟩) HNR.out (.slice Aq53 (st.length+1) cq54));have Kq59:=Zh (StStep.set (r:=r) Kq45.out Hhgq49.out Hhlq50.out);refine hK.out _ _ (Zam Tq58.out) (λht31=>?_);clear hK K;(try simp only[Act.put,lz3,lz4,lz5]);refine Yb9 (by kernel_rfl) ?_ _;go_wp2_with fail;go_end0;exact⟨rfl,_,Fq57.out,Kq59.out⟩
  case st9=>
   intro K hK;go_simp;refine(Zg3 w0 _ r b ⟨va,vb,vc,vs,HR0.out⟩ HSO.out (k,p)).mono ?_;rintro eq65 uq60 ⟨rfl,hq61⟩;rw[<- HI.out];have Rq62:=Zh (HR0.out.then hq61);have Tq63:=Zh (HST0.out.below hq61 HST0.out.lt);have Kq66:=Zh (Zaa HK0.out hq61 HK0.out.size);clear hq61;go_wp2_with fail;refine hK.out _ _ (Zam Tq63.out) (λht32=>?_);clear hK K;(try simp only[Act.put,lz3,lz4,lz5]);refine rd2 4 9 ?st33 ?st34;case st33=>
    intro K hK;have yq67:uq60.cell? ⟨r,4,none⟩=some vs:=by have:=Rq62.out.blk.cell 4;simpa using this
    go_simp;clear yq67;refine hK.out _ _ (Zam Tq63.out) (λht35=>?_);clear hK K;(try simp only[Act.put,lz3,lz4,lz5]);refine rd1 9 ?st36;case st36=>
     intro K hK;go_simp;obtain⟨uq68,huq69⟩:=Ze (uq60.alloc (.cells #[.int .i64 k,.int .i64 p] 201));have Nq73:Hid (Blk uq68 uq60.heap.size 201 #[.int .i64 k,.int .i64 p]):=Zh (by rw[huq69];exact Blk.new _ _ _);rw[<- huq69];have hbq70:Below uq60.heap.size uq60 uq68:=by rw[huq69];exact(Ybm _ uq60).alloc (Yar _) _
     have NEq74:Hid (vs.ownBlock≠some uq60.heap.size):=Zh (λe=>Ycm _ (Rq62.out.stR.lt _ e).2);have Rq71:=Zh (Rq62.out.then hbq70);have Tq72:=Zh (Tq63.out.below hbq70 Tq63.out.lt);have Kq75:=Zh (Zaa Kq66.out hbq70 Kq66.out.size);clear huq69 hbq70;refine hK.out _ _ (Zam Tq72.out) (λht37=>?_);clear hK K;(try simp only[Act.put,lz3,lz4,lz5]);refine rd1 10 ?st38;case st38=>
      intro K hK;go_simp;refine(Zi8 _ w0.heap.size vs st.length (st.flatMap stV) Rq71.out.stR (Zhk st) I hIl (by omega) _ (.int .i64 k) (.int .i64 p) Nq73.out NEq74.out rfl rfl Rq71.out.below.size).mono ?_;rintro eq77 uq76 ⟨v',rfl,hwq78,hgq79,hlq80⟩;obtain⟨Aq83,cq84,rfl⟩:=Zac hwq78;rw[HD.out]at hwq78;have Bq81:=Zh (Rq71.out.blk.grown hgq79 (λe=>Zah Rq71.out.stR Rq71.out.blk (by decide) e.symm));have Tq82:=Zh (Tq72.out.grown hgq79 (λe=>HNS.out e.symm));have Hhwq78:=Zh hwq78;have Hhgq79:=Zh hgq79;have Hhlq80:=Zh hlq80;clear hwq78 hgq79 hlq80;go_wp2_with fail;refine hK.out _ _ (Zam Tq82.out) (λht39=>?_);clear hK K;(try simp only[Act.put,lz3,lz4,lz5]);refine tk 11 ?_;(try simp only[Act.put,lz3,lz4,lz5]);refine tk 12 ?_;(try simp only[Act.put,lz3,lz4,lz5]);refine rd1 13 ?st42;case st42=>
       intro K hK;have yq85:uq76.cell? ⟨r,4,none⟩=some vs:=by have:=Bq81.out.cell 4;simpa using this
       have zq86:=Bq81.out.frozen 4;go_simp;clear yq85 zq86;have Fq87:=Zh (Rq71.out.setSt (st':=addS st (k,p)) (vs':=(.slice Aq83 (st.length+1) cq84)) (w2:=uq76) (by rw[HL.out];exact Hhwq78.out) Hhgq79.out (by rw[HL.out];omega) HF.out);have Tq88:=Zh (Tq82.out.far (p:=⟨r,4,none⟩) HNR.out (.slice Aq83 (st.length+1) cq84));have Kq89:=Zh (StStep.set (r:=r) Kq75.out Hhgq79.out Hhlq80.out);refine hK.out _ _ (Zam Tq88.out) (λht43=>?_);clear hK K;(try simp only[Act.put,lz3,lz4,lz5]);refine Yb9 (by kernel_rfl) ?_ _;go_wp2_with fail;go_end0;exact⟨rfl,_,Fq87.out,Kq89.out⟩
   case st34=>
    intro K hK;go_simp;obtain⟨uq90,huq91⟩:=Ze (uq60.alloc (.cells #[.int .i64 k,.int .i64 p] 201));have Nq95:Hid (Blk uq90 uq60.heap.size 201 #[.int .i64 k,.int .i64 p]):=Zh (by rw[huq91];exact Blk.new _ _ _);rw[<- huq91];have hbq92:Below uq60.heap.size uq60 uq90:=by rw[huq91];exact(Ybm _ uq60).alloc (Yar _) _
    have NEq96:Hid (vs.ownBlock≠some uq60.heap.size):=Zh (λe=>Ycm _ (Rq62.out.stR.lt _ e).2);have Rq93:=Zh (Rq62.out.then hbq92);have Tq94:=Zh (Tq63.out.below hbq92 Tq63.out.lt);have Kq97:=Zh (Zaa Kq66.out hbq92 Kq66.out.size);clear huq91 hbq92;refine hK.out _ _ (Zam Tq94.out) (λht44=>?_);clear hK K;(try simp only[Act.put,lz3,lz4,lz5]);refine rd1 4 ?st45;case st45=>
     intro K hK;have yq98:uq90.cell? ⟨r,4,none⟩=some vs:=by have:=Rq93.out.blk.cell 4;simpa using this
     go_simp;clear yq98;refine hK.out _ _ (Zam Tq94.out) (λht46=>?_);clear hK K;(try simp only[Act.put,lz3,lz4,lz5]);refine rd1 10 ?st47;case st47=>
      intro K hK;go_simp;refine(Zi8 _ w0.heap.size vs st.length (st.flatMap stV) Rq93.out.stR (Zhk st) I hIl (by omega) _ (.int .i64 k) (.int .i64 p) Nq95.out NEq96.out rfl rfl Rq93.out.below.size).mono ?_;rintro eq100 uq99 ⟨v',rfl,hwq101,hgq102,hlq103⟩;obtain⟨Aq106,cq107,rfl⟩:=Zac hwq101;rw[HD.out]at hwq101;have Bq104:=Zh (Rq93.out.blk.grown hgq102 (λe=>Zah Rq93.out.stR Rq93.out.blk (by decide) e.symm));have Tq105:=Zh (Tq94.out.grown hgq102 (λe=>HNS.out e.symm));have Hhwq101:=Zh hwq101;have Hhgq102:=Zh hgq102;have Hhlq103:=Zh hlq103;clear hwq101 hgq102 hlq103;go_wp2_with fail;refine hK.out _ _ (Zam Tq105.out) (λht48=>?_);clear hK K;(try simp only[Act.put,lz3,lz4,lz5]);refine tk 11 ?_;(try simp only[Act.put,lz3,lz4,lz5]);refine tk 12 ?_;(try simp only[Act.put,lz3,lz4,lz5]);refine rd1 13 ?st51;case st51=>
       intro K hK;have yq108:uq99.cell? ⟨r,4,none⟩=some vs:=by have:=Bq104.out.cell 4;simpa using this
       have zq109:=Bq104.out.frozen 4;go_simp;clear yq108 zq109;have Fq110:=Zh (Rq93.out.setSt (st':=addS st (k,p)) (vs':=(.slice Aq106 (st.length+1) cq107)) (w2:=uq99) (by rw[HL.out];exact Hhwq101.out) Hhgq102.out (by rw[HL.out];omega) HF.out);have Tq111:=Zh (Tq105.out.far (p:=⟨r,4,none⟩) HNR.out (.slice Aq106 (st.length+1) cq107));have Kq112:=Zh (StStep.set (r:=r) Kq97.out Hhgq102.out Hhlq103.out);refine hK.out _ _ (Zam Tq111.out) (λht52=>?_);clear hK K;(try simp only[Act.put,lz3,lz4,lz5]);refine Yb9 (by kernel_rfl) ?_ _;go_wp2_with fail;go_end0;exact⟨rfl,_,Fq110.out,Kq112.out⟩
  case st10=>
   intro K hK;go_simp;obtain⟨uq113,huq114⟩:=Ze (u0.alloc (.cells #[.int .i64 k,.int .i64 p] 201));have Nq118:Hid (Blk uq113 u0.heap.size 201 #[.int .i64 k,.int .i64 p]):=Zh (by rw[huq114];exact Blk.new _ _ _);rw[<- huq114];have hbq115:Below u0.heap.size u0 uq113:=by rw[huq114];exact(Ybm _ u0).alloc (Yar _) _
   have NEq119:Hid (vs.ownBlock≠some u0.heap.size):=Zh (λe=>Ycm _ (HR0.out.stR.lt _ e).2);have Rq116:=Zh (HR0.out.then hbq115);have Tq117:=Zh (HST0.out.below hbq115 HST0.out.lt);have Kq120:=Zh (Zaa HK0.out hbq115 HK0.out.size);clear huq114 hbq115;refine hK.out _ _ (Zam Tq117.out) (λht53=>?_);clear hK K;(try simp only[Act.put,lz3,lz4,lz5]);refine rd2 4 7 ?st54 ?st55;case st54=>
    intro K hK;have yq121:uq113.cell? ⟨r,4,none⟩=some vs:=by have:=Rq116.out.blk.cell 4;simpa using this
    go_simp;clear yq121;refine hK.out _ _ (Zam Tq117.out) (λht56=>?_);clear hK K;(try simp only[Act.put,lz3,lz4,lz5]);refine rd1 7 ?st57;case st57=>
     intro K hK;go_simp;refine(Zg3 w0 _ r b ⟨va,vb,vc,vs,Rq116.out⟩ HSO.out (k,p)).mono ?_;rintro eq127 uq122 ⟨rfl,hq123⟩;rw[<- HI.out];have Rq124:=Zh (Rq116.out.then hq123);have Tq125:=Zh (Tq117.out.below hq123 Tq117.out.lt);have Kq128:=Zh (Zaa Kq120.out hq123 Kq120.out.size);have Nq126:=Zh (Nq118.out.below hq123 Nq118.out.lt);clear hq123;go_wp2_with fail;refine hK.out _ _ (Zam Tq125.out) (λht58=>?_);clear hK K;(try simp only[Act.put,lz3,lz4,lz5]);refine rd1 10 ?st59;case st59=>
      intro K hK;go_simp;refine(Zi8 _ w0.heap.size vs st.length (st.flatMap stV) Rq124.out.stR (Zhk st) I hIl (by omega) _ (.int .i64 k) (.int .i64 p) Nq126.out NEq119.out rfl rfl Rq124.out.below.size).mono ?_;rintro eq130 uq129 ⟨v',rfl,hwq131,hgq132,hlq133⟩;obtain⟨Aq136,cq137,rfl⟩:=Zac hwq131;rw[HD.out]at hwq131;have Bq134:=Zh (Rq124.out.blk.grown hgq132 (λe=>Zah Rq124.out.stR Rq124.out.blk (by decide) e.symm));have Tq135:=Zh (Tq125.out.grown hgq132 (λe=>HNS.out e.symm));have Hhwq131:=Zh hwq131;have Hhgq132:=Zh hgq132;have Hhlq133:=Zh hlq133;clear hwq131 hgq132 hlq133;go_wp2_with fail;refine hK.out _ _ (Zam Tq135.out) (λht60=>?_);clear hK K;(try simp only[Act.put,lz3,lz4,lz5]);refine tk 11 ?_;(try simp only[Act.put,lz3,lz4,lz5]);refine tk 12 ?_;(try simp only[Act.put,lz3,lz4,lz5]);refine rd1 13 ?st63;case st63=>
       intro K hK;have yq138:uq129.cell? ⟨r,4,none⟩=some vs:=by have:=Bq134.out.cell 4;simpa using this
       have zq139:=Bq134.out.frozen 4;go_simp;clear yq138 zq139;have Fq140:=Zh (Rq124.out.setSt (st':=addS st (k,p)) (vs':=(.slice Aq136 (st.length+1) cq137)) (w2:=uq129) (by rw[HL.out];exact Hhwq131.out) Hhgq132.out (by rw[HL.out];omega) HF.out);have Tq141:=Zh (Tq135.out.far (p:=⟨r,4,none⟩) HNR.out (.slice Aq136 (st.length+1) cq137));have Kq142:=Zh (StStep.set (r:=r) Kq128.out Hhgq132.out Hhlq133.out);refine hK.out _ _ (Zam Tq141.out) (λht64=>?_);clear hK K;(try simp only[Act.put,lz3,lz4,lz5]);refine Yb9 (by kernel_rfl) ?_ _;go_wp2_with fail;go_end0;exact⟨rfl,_,Fq140.out,Kq142.out⟩
   case st55=>
    intro K hK;go_simp;refine(Zg3 w0 _ r b ⟨va,vb,vc,vs,Rq116.out⟩ HSO.out (k,p)).mono ?_;rintro eq148 uq143 ⟨rfl,hq144⟩;rw[<- HI.out];have Rq145:=Zh (Rq116.out.then hq144);have Tq146:=Zh (Tq117.out.below hq144 Tq117.out.lt);have Kq149:=Zh (Zaa Kq120.out hq144 Kq120.out.size);have Nq147:=Zh (Nq118.out.below hq144 Nq118.out.lt);clear hq144;go_wp2_with fail;refine hK.out _ _ (Zam Tq146.out) (λht65=>?_);clear hK K;(try simp only[Act.put,lz3,lz4,lz5]);refine rd1 4 ?st66;case st66=>
     intro K hK;have yq150:uq143.cell? ⟨r,4,none⟩=some vs:=by have:=Rq145.out.blk.cell 4;simpa using this
     go_simp;clear yq150;refine hK.out _ _ (Zam Tq146.out) (λht67=>?_);clear hK K;(try simp only[Act.put,lz3,lz4,lz5]);refine rd1 10 ?st68;case st68=>
      intro K hK;go_simp;refine(Zi8 _ w0.heap.size vs st.length (st.flatMap stV) Rq145.out.stR (Zhk st) I hIl (by omega) _ (.int .i64 k) (.int .i64 p) Nq147.out NEq119.out rfl rfl Rq145.out.below.size).mono ?_;rintro eq152 uq151 ⟨v',rfl,hwq153,hgq154,hlq155⟩;obtain⟨Aq158,cq159,rfl⟩:=Zac hwq153;rw[HD.out]at hwq153;have Bq156:=Zh (Rq145.out.blk.grown hgq154 (λe=>Zah Rq145.out.stR Rq145.out.blk (by decide) e.symm));have Tq157:=Zh (Tq146.out.grown hgq154 (λe=>HNS.out e.symm));have Hhwq153:=Zh hwq153;have Hhgq154:=Zh hgq154;have Hhlq155:=Zh hlq155;clear hwq153 hgq154 hlq155;go_wp2_with fail;refine hK.out _ _ (Zam Tq157.out) (λht69=>?_);clear hK K;(try simp only[Act.put,lz3,lz4,lz5]);refine tk 11 ?_;(try simp only[Act.put,lz3,lz4,lz5]);refine tk 12 ?_;(try simp only[Act.put,lz3,lz4,lz5]);refine rd1 13 ?st72;case st72=>
       intro K hK;have yq160:uq151.cell? ⟨r,4,none⟩=some vs:=by have:=Bq156.out.cell 4;simpa using this
       have zq161:=Bq156.out.frozen 4;go_simp;clear yq160 zq161;have Fq162:=Zh (Rq145.out.setSt (st':=addS st (k,p)) (vs':=(.slice Aq158 (st.length+1) cq159)) (w2:=uq151) (by rw[HL.out];exact Hhwq153.out) Hhgq154.out (by rw[HL.out];omega) HF.out);have Tq163:=Zh (Tq157.out.far (p:=⟨r,4,none⟩) HNR.out (.slice Aq158 (st.length+1) cq159));have Kq164:=Zh (StStep.set (r:=r) Kq149.out Hhgq154.out Hhlq155.out);refine hK.out _ _ (Zam Tq163.out) (λht73=>?_);clear hK K;(try simp only[Act.put,lz3,lz4,lz5]);refine Yb9 (by kernel_rfl) ?_ _;go_wp2_with fail;go_end0;exact⟨rfl,_,Fq162.out,Kq164.out⟩
def Qes (w:World) (b:Nat) (M:List Mg) (s:Nm) (e:Ending) (w':World):Prop:=
 ∃ r st,e=.returned (at0 r)/\Row w w' r b (Zb6 s) (befI (s.length+1)) (behI s.length) st/\StOK st (Zcg M (Zb6 s) (List.range (s.length+1)))/\st.length<=s.length
theorem Zuo (w:World) (b:Nat) (V:Voc) (hC:Coder w b V) (A:Option Addr) (n c:Nat) (s:Nm) (hs:BytesIn w A n s) (hn:n<=1000000) (hM:V.mer.length<=1000000):
  Calls Tryz.prog 61 #[at0 b,.slice A n c] w (Qes w b V.mer s):=by
 obtain⟨i0,hi,hz0,hz1,hz2⟩:=info_parts Zgv;obtain⟨j0,hj0,hy0,hy1,hy2⟩:=info_parts Zia;have hsl:s.length=n:=by have:=hs.2.1.len;simpa using this
 have hO:=Zmf s;rw[hsl]at hO;obtain⟨r,hr⟩:=Ze w.heap.size;have hb1:Below w.heap.size w (w.alloc (.cells #[at0 b,.slice none 0 0,.slice none 0 0,.slice none 0 0,.slice none 0 0] 130)):=(Ybm _ w).alloc (Yar _) _;have hR1:IsRow w (w.alloc (.cells #[at0 b,.slice none 0 0,.slice none 0 0,.slice none 0 0,.slice none 0 0] 130)) r b [] [] [] [] (.slice none 0 0) (.slice none 0 0) (.slice none 0 0) (.slice none 0 0):={
  blk:=by rw[hr];exact Blk.new _ _ _
  new:=by omega
  below:=hb1
  atR:=Yb2 _ _ _ _
  befR:=Yb2 _ _ _ _
  behR:=Yb2 _ _ _ _
  stR:=Yb2 _ _ _ _
  nab:=λg h=>by simp[Value.ownBlock]at h
  nac:=λg h=>by simp[Value.ownBlock]at h
  nbc:=λg h=>by simp[Value.ownBlock]at h
  fits:=⟨by simp,by simp,by simp⟩
  small:=by simp
  stF:=by simp }
 have HC:=Zh hC;have HSB:=Zh hs;have HSL:=Zh hsl;have HO:=Zh hO;have HR1:=Zh hR1;have HRR:=Zh hr;clear hC hs hsl hO hb1 hR1;unfold at0;go_enter Tryz.func61,Tryz.ntmps61;go_wp2_with fail;rw[<- hr];clear hr;go_loopw [16] (λi wr=>∃ (j:Nat) (va vb vc:Value),j<=n/\i=.int .i64 (j:Nat)/\IsRow w wr r b ((Zb6 s).take j) (befI j) (behI j) [] va vb vc (.slice none 0 0)) (λi _=>n-(intOf i).toNat);case atStart=>exact⟨0,_,_,_,Ybd _,rfl,HR1.out⟩
 case round=>
  obtain⟨j,va,vb,vc,hj,rfl,hR⟩:=hrel;rcases Yab j n with hlt|hge
  ·obtain⟨adx,x,e1,hx,xc⟩:=(HSB.out.below hR.below).at j hlt
   subst e1;have hxl:x.toNat<256:=x.toBitVec.isLt;have hx0:(0:Int)<=(x.toNat:Int):=by omega
   have hx1:(x.toNat:Int)<256:=by omega
   obtain⟨L,hL⟩:=Ze ((Zb6 s).take j);have htl:L.length=j:=by rw[hL,Ycc,Za8,HSL.out];omega
   have htk:(Zb6 s).take (j+1)=L++[((x.toNat:Nat):Int)]:=by
    rw[hL,Ya5];unfold Zb6;rw[Ych,hx];rfl
   rw[<- hL]at hR;have HR:=Zh hR;have HTL:=Zh htl;have HTK:=Zh htk;obtain⟨Ac,Bc,ca,cb,bp,D,csC,hCC⟩:=HC.out;have hcb:∀ w',Below w.heap.size w w'->w'.cell? ⟨b,2+x.toNat,none⟩=some (.int .i64 (x.toNat:Nat)):=λw' hb=>by
    rw[(hCC.blk.below hb hCC.blk.lt).cell];exact hCC.cB x.toNat hxl
   have HCB:=Zh hcb;have hjz:(0:Int)<=(j:Int):=by omega
   have hjn:(j:Int)<(n:Int):=by omega
   have hjb:(j:Int)<=1000000:=by omega
   clear hR htl htk hcb hCC hx hL;go_wp2_with fail;clear xc;refine Yb8 (S:=λw'=>w'.cell? ⟨b,2+x.toNat,none⟩=some (.int .i64 (x.toNat:Nat))) (by kernel_rfl) (HCB.out _ HR.out.below.drew) (λhHeld=>?_);obtain⟨u0,hu0⟩:=Ze wr.drew;rw[<- hu0]at hHeld ⊢;have hb0:Below wr.heap.size wr u0:=by rw[hu0];exact(Ybm _ wr).drew
   have HR0:=Zh (HR.out.then hb0);clear hu0 hb0;refine tk 0 ?_;(try simp only[Act.put,lz3,lz4,lz5]);refine tk 1 ?_;(try simp only[Act.put,lz3,lz4,lz5]);refine tk 5 ?_;(try simp only[Act.put,lz3,lz4,lz5]);refine tk 6 ?_;(try simp only[Act.put,lz3,lz4,lz5]);refine tk 2 ?_;(try simp only[Act.put,lz3,lz4,lz5]);refine tk 7 ?_;(try simp only[Act.put,lz3,lz4,lz5]);refine tk 3 ?_;(try simp only[Act.put,lz3,lz4,lz5]);refine tk 8 ?_;(try simp only[Act.put,lz3,lz4,lz5]);refine tk 9 ?_;(try simp only[Act.put,lz3,lz4,lz5]);refine tk 10 ?_;(try simp only[Act.put,lz3,lz4,lz5]);refine rd2 4 11 ?st11 ?st12;case st11=>
    intro K hK;have yq1:u0.cell? ⟨r,1,none⟩=some va:=by have:=HR0.out.blk.cell 1;simpa using this
    go_simp;clear yq1;refine hK.out _ _ (HCB.out _ HR0.out.below) (λht13=>?_);clear hK K;(try simp only[Act.put,lz3,lz4,lz5]);refine rd1 11 ?st14;case st14=>
     intro K hK;go_simp;obtain⟨uq2,huq3⟩:=Ze (u0.alloc (.cells #[.int .i64 (x.toNat:Nat)] 3));have Nq6:Hid (Blk uq2 u0.heap.size 3 #[.int .i64 (x.toNat:Nat)]):=Zh (by rw[huq3];exact Blk.new _ _ _);rw[<- huq3];have hbq4:Below u0.heap.size u0 uq2:=by rw[huq3];exact(Ybm _ u0).alloc (Yar _) _
     have Rq5:=Zh (HR0.out.then hbq4);clear huq3 hbq4;refine hK.out _ _ (HCB.out _ Rq5.out.below) (λht15=>?_);clear hK K;(try simp only[Act.put,lz3,lz4,lz5]);refine rd1 12 ?st16;case st16=>
      intro K hK;refine Zbq _ rfl (.tmp 25) (.tmp 32) 52 rfl w.heap.size 3 i0 (.int .i64 0) 1 8 Tryz.underlying52 hi hz0 hz1 hz2 rfl (by omega) va _ _ rfl Rq5.out.atR (some ⟨u0.heap.size,0,none⟩) 1 1 [.int .i64 (x.toNat:Nat)] rfl ⟨rfl,λad e j u hu=>by cases e;rw[Zaz,Nq6.out.cell];simpa using hu,λe=>by cases e⟩ (by simp[Value.oneCell']) (by rw[HTL.out];unfold maxLen;omega) (by rw[HTL.out];omega) Rq5.out.below.size ?_;intro v' uq8 hwq9 hgq10 hlq11;obtain⟨Aq12,cq13,rfl⟩:=Zac hwq9;have Bq14:=Zh (Rq5.out.blk.grown hgq10 (λe=>Zah Rq5.out.atR Rq5.out.blk (by decide) e.symm));have Bq14b:Hid (Below w.heap.size w uq8):=Zh (Rq5.out.below.grown hgq10 Rq5.out.below.size (λk e=>(Rq5.out.atR.lt k e).1));have Hhwq9:=Zh hwq9;have Hhgq10:=Zh hgq10;have Hhlq11:=Zh hlq11;clear hwq9 hgq10 hlq11;refine hK.out _ _ (HCB.out _ Bq14b.out) (λht17=>?_);clear hK K;(try simp only[Act.put,lz3,lz4,lz5]);refine tk 13 ?_;(try simp only[Act.put,lz3,lz4,lz5]);refine tk 14 ?_;(try simp only[Act.put,lz3,lz4,lz5]);refine rd1 15 ?st20;case st20=>
       intro K hK;have yq15:uq8.cell? ⟨r,1,none⟩=some va:=by have:=Bq14.out.cell 1;simpa using this
       have zq16:=Bq14.out.frozen 1;go_simp;clear yq15 zq16;have Fq17:=Zh (Rq5.out.pushAt (v':=(.slice Aq12 (L.length+1) cq13)) (w2:=uq8) (x:=(x.toNat:Nat)) Hhwq9.out Hhgq10.out Hhlq11.out ⟨by omega,by omega⟩ (by rw[HTL.out];omega));refine hK.out _ _ (HCB.out _ Fq17.out.below) (λht21=>?_);clear hK K;(try simp only[Act.put,lz3,lz4,lz5]);refine Yb9 (by kernel_rfl) ?_ _;obtain⟨W5,hW5⟩:=Ze ((uq8.setCell ⟨r,1,none⟩ (.slice Aq12 (L.length+1) cq13)));have H5:=Fq17.out;rw[<- hW5]at H5 ⊢;have HR5:=Zh H5;have HR5a:=Zh (H5.then ((Ybm _ W5).alloc (Yar _) (.cells #[.int .i64 ((j:Int)-1)] 3)));have y2:W5.cell? ⟨r,2,none⟩=some vb:=H5.cl.2.2.1;clear hW5 H5 hHeld;go_wp2_with (at_builtin;clear y2;refine wpList_append_own_at _ rfl _ _ 52 rfl w.heap.size 3 i0 (.int .i64 0) 1 8 Tryz.underlying52 hi hz0 hz1 hz2 rfl (by decide) vb _ _ rfl HR5a.out.befR ⟨W5.heap.size,0,none⟩ 1 1 [.int .i64 ((j:Int)-1)] rfl rfl Zb9 (by simp[Value.oneCell']) (by rw[Zbr];unfold maxLen;omega) (by rw[Zbr];omega) HR5a.out.below.size ?_;intro v6 w6 ho6 hg6 hn6 hl6;clear hn6;obtain⟨A6,c6,rfl⟩:=Zac ho6;have B6:=HR5a.out.blk.grown hg6 (λe=>Zah HR5a.out.befR HR5a.out.blk (by decide) e.symm);have e6:w6.cell? ⟨r,2,none⟩=some vb:=(by have:=B6.cell 2;simpa using this);have z6:=B6.frozen 2;have r6:=HR5a.out.pushBef (x:=(j:Int)-1) ho6 hg6 hl6 ⟨by omega,by omega⟩ (by rw[Zbr];omega);have y3:=r6.cl.2.2.2.1;rw[Zbr]at y3;rw[Zbr];rw[Zbr,<- Zkh]at r6;have R6:=Zh r6;clear B6 ho6 hg6 hl6 r6;have R6a:=Zh (R6.out.then ((Ybm _ _).alloc (Yar _) (.cells #[.int .i64 ((j:Int)+1)] 3)));go_wp2_with (at_builtin;clear y3 e6 z6;refine wpList_append_own_at _ rfl _ _ 52 rfl w.heap.size 3 i0 (.int .i64 0) 1 8 Tryz.underlying52 hi hz0 hz1 hz2 rfl (by decide) vc _ _ rfl R6a.out.behR ⟨w6.heap.size,0,none⟩ 1 1 [.int .i64 ((j:Int)+1)] rfl rfl (Zjj (Zai _ _ _)) (by simp[Value.oneCell']) (by rw[Zc9];unfold maxLen;omega) (by rw[Zc9];omega) R6a.out.below.size ?_;intro v7 w7 ho7 hg7 hn7 hl7;clear hn7;obtain⟨A7,c7,rfl⟩:=Zac ho7;have B7:=R6a.out.blk.grown hg7 (λe=>Zah R6a.out.behR R6a.out.blk (by decide) e.symm);have e7:w7.cell? ⟨r,3,none⟩=some vc:=(by have:=B7.cell 3;simpa using this);have z7:=B7.frozen 3;have r7:=R6a.out.pushBeh (x:=(j:Int)+1) ho7 hg7 hl7 ⟨by omega,by omega⟩ (by rw[Zc9];omega);rw[Zc9];rw[Zc9,<- Zpd,<- HTK.out]at r7;have R7:=Zh r7;clear B7 ho7 hg7 hl7 r7));go_roundw;case rel=>exact⟨j+1,_,_,_,by omega,by go_num,R7.out⟩
       case measure=>simp[intOf];omega
   case st12=>
    intro K hK;go_simp;obtain⟨uq18,huq19⟩:=Ze (u0.alloc (.cells #[.int .i64 (x.toNat:Nat)] 3));have Nq22:Hid (Blk uq18 u0.heap.size 3 #[.int .i64 (x.toNat:Nat)]):=Zh (by rw[huq19];exact Blk.new _ _ _);rw[<- huq19];have hbq20:Below u0.heap.size u0 uq18:=by rw[huq19];exact(Ybm _ u0).alloc (Yar _) _
    have Rq21:=Zh (HR0.out.then hbq20);clear huq19 hbq20;refine hK.out _ _ (HCB.out _ Rq21.out.below) (λht22=>?_);clear hK K;(try simp only[Act.put,lz3,lz4,lz5]);refine rd1 4 ?st23;case st23=>
     intro K hK;have yq24:uq18.cell? ⟨r,1,none⟩=some va:=by have:=Rq21.out.blk.cell 1;simpa using this
     go_simp;clear yq24;refine hK.out _ _ (HCB.out _ Rq21.out.below) (λht24=>?_);clear hK K;(try simp only[Act.put,lz3,lz4,lz5]);refine rd1 12 ?st25;case st25=>
      intro K hK;refine Zbq _ rfl (.tmp 25) (.tmp 32) 52 rfl w.heap.size 3 i0 (.int .i64 0) 1 8 Tryz.underlying52 hi hz0 hz1 hz2 rfl (by omega) va _ _ rfl Rq21.out.atR (some ⟨u0.heap.size,0,none⟩) 1 1 [.int .i64 (x.toNat:Nat)] rfl ⟨rfl,λad e j u hu=>by cases e;rw[Zaz,Nq22.out.cell];simpa using hu,λe=>by cases e⟩ (by simp[Value.oneCell']) (by rw[HTL.out];unfold maxLen;omega) (by rw[HTL.out];omega) Rq21.out.below.size ?_;intro v' uq25 hwq26 hgq27 hlq28;obtain⟨Aq29,cq30,rfl⟩:=Zac hwq26;have Bq31:=Zh (Rq21.out.blk.grown hgq27 (λe=>Zah Rq21.out.atR Rq21.out.blk (by decide) e.symm));have Bq31b:Hid (Below w.heap.size w uq25):=Zh (Rq21.out.below.grown hgq27 Rq21.out.below.size (λk e=>(Rq21.out.atR.lt k e).1));have Hhwq26:=Zh hwq26;have Hhgq27:=Zh hgq27;have Hhlq28:=Zh hlq28;clear hwq26 hgq27 hlq28;refine hK.out _ _ (HCB.out _ Bq31b.out) (λht26=>?_);clear hK K;(try simp only[Act.put,lz3,lz4,lz5]);refine tk 13 ?_;(try simp only[Act.put,lz3,lz4,lz5]);refine tk 14 ?_;(try simp only[Act.put,lz3,lz4,lz5]);refine rd1 15 ?st29;case st29=>
       intro K hK;have yq32:uq25.cell? ⟨r,1,none⟩=some va:=by have:=Bq31.out.cell 1;simpa using this
       have zq33:=Bq31.out.frozen 1;go_simp;clear yq32 zq33;have Fq34:=Zh (Rq21.out.pushAt (v':=(.slice Aq29 (L.length+1) cq30)) (w2:=uq25) (x:=(x.toNat:Nat)) Hhwq26.out Hhgq27.out Hhlq28.out ⟨by omega,by omega⟩ (by rw[HTL.out];omega));refine hK.out _ _ (HCB.out _ Fq34.out.below) (λht30=>?_);clear hK K;(try simp only[Act.put,lz3,lz4,lz5]);refine Yb9 (by kernel_rfl) ?_ _;obtain⟨W5,hW5⟩:=Ze ((uq25.setCell ⟨r,1,none⟩ (.slice Aq29 (L.length+1) cq30)));have H5:=Fq34.out;rw[<- hW5]at H5 ⊢;have HR5:=Zh H5;have HR5a:=Zh (H5.then ((Ybm _ W5).alloc (Yar _) (.cells #[.int .i64 ((j:Int)-1)] 3)));have y2:W5.cell? ⟨r,2,none⟩=some vb:=H5.cl.2.2.1;clear hW5 H5 hHeld;go_wp2_with (at_builtin;clear y2;refine wpList_append_own_at _ rfl _ _ 52 rfl w.heap.size 3 i0 (.int .i64 0) 1 8 Tryz.underlying52 hi hz0 hz1 hz2 rfl (by decide) vb _ _ rfl HR5a.out.befR ⟨W5.heap.size,0,none⟩ 1 1 [.int .i64 ((j:Int)-1)] rfl rfl Zb9 (by simp[Value.oneCell']) (by rw[Zbr];unfold maxLen;omega) (by rw[Zbr];omega) HR5a.out.below.size ?_;intro v6 w6 ho6 hg6 hn6 hl6;clear hn6;obtain⟨A6,c6,rfl⟩:=Zac ho6;have B6:=HR5a.out.blk.grown hg6 (λe=>Zah HR5a.out.befR HR5a.out.blk (by decide) e.symm);have e6:w6.cell? ⟨r,2,none⟩=some vb:=(by have:=B6.cell 2;simpa using this);have z6:=B6.frozen 2;have r6:=HR5a.out.pushBef (x:=(j:Int)-1) ho6 hg6 hl6 ⟨by omega,by omega⟩ (by rw[Zbr];omega);have y3:=r6.cl.2.2.2.1;rw[Zbr]at y3;rw[Zbr];rw[Zbr,<- Zkh]at r6;have R6:=Zh r6;clear B6 ho6 hg6 hl6 r6;have R6a:=Zh (R6.out.then ((Ybm _ _).alloc (Yar _) (.cells #[.int .i64 ((j:Int)+1)] 3)));go_wp2_with (at_builtin;clear y3 e6 z6;refine wpList_append_own_at _ rfl _ _ 52 rfl w.heap.size 3 i0 (.int .i64 0) 1 8 Tryz.underlying52 hi hz0 hz1 hz2 rfl (by decide) vc _ _ rfl R6a.out.behR ⟨w6.heap.size,0,none⟩ 1 1 [.int .i64 ((j:Int)+1)] rfl rfl (Zjj (Zai _ _ _)) (by simp[Value.oneCell']) (by rw[Zc9];unfold maxLen;omega) (by rw[Zc9];omega) R6a.out.below.size ?_;intro v7 w7 ho7 hg7 hn7 hl7;clear hn7;obtain⟨A7,c7,rfl⟩:=Zac ho7;have B7:=R6a.out.blk.grown hg7 (λe=>Zah R6a.out.behR R6a.out.blk (by decide) e.symm);have e7:w7.cell? ⟨r,3,none⟩=some vc:=(by have:=B7.cell 3;simpa using this);have z7:=B7.frozen 3;have r7:=R6a.out.pushBeh (x:=(j:Int)+1) ho7 hg7 hl7 ⟨by omega,by omega⟩ (by rw[Zc9];omega);rw[Zc9];rw[Zc9,<- Zpd,<- HTK.out]at r7;have R7:=Zh r7;clear B7 ho7 hg7 hl7 r7));go_roundw;case rel=>exact⟨j+1,_,_,_,by omega,by go_num,R7.out⟩
       case measure=>simp[intOf];omega
  ·obtain rfl:n=j:=by omega
   have htl:(Zb6 s).take n=Zb6 s:=Yav (by rw[Za8,HSL.out];omega);rw[htl]at hR;have y2:wr.cell? ⟨r,2,none⟩=some vb:=hR.cl.2.2.1;have HRa:=Zh (hR.then ((Ybm _ wr).alloc (Yar _) (.cells #[.int .i64 ((n:Int)-1)] 3)));have hn0:(0:Int)<=(n:Int):=by omega
   have hn1:(n:Int)<=1000000:=by omega
   clear hR htl;go_wp2_with (at_builtin;clear y2;refine wpList_append_own_at _ rfl _ _ 52 rfl w.heap.size 3 i0 (.int .i64 0) 1 8 Tryz.underlying52 hi hz0 hz1 hz2 rfl (by decide) vb _ _ rfl HRa.out.befR ⟨wr.heap.size,0,none⟩ 1 1 [.int .i64 ((n:Int)-1)] rfl rfl Zb9 (by simp[Value.oneCell']) (by rw[Zbr];unfold maxLen;omega) (by rw[Zbr];omega) HRa.out.below.size ?_;intro v6 w6 ho6 hg6 hn6 hl6;clear hn6;obtain⟨A6,c6,rfl⟩:=Zac ho6;have B6:=HRa.out.blk.grown hg6 (λe=>Zah HRa.out.befR HRa.out.blk (by decide) e.symm);have e6:w6.cell? ⟨r,2,none⟩=some vb:=(by have:=B6.cell 2;simpa using this);have z6:=B6.frozen 2;have r6:=HRa.out.pushBef (x:=(n:Int)-1) ho6 hg6 hl6 ⟨by omega,by omega⟩ (by rw[Zbr];omega);have y3:=r6.cl.2.2.2.1;rw[Zbr]at y3;rw[Zbr];rw[Zbr,<- Zkh]at r6;have R6:=Zh r6;clear B6 ho6 hg6 hl6 r6);obtain⟨W9,hW9⟩:=Ze (w6.setCell ⟨r,2,none⟩ (.slice A6 (n+1) c6));have R9:=R6.out;rw[<- hW9]at R9 ⊢;have HR9:=Zh R9;clear R6 HRa HR1 R9 hW9 y3 e6 z6;go_loopw [73] (λi wr=>∃ (j:Nat) (st:List (Nat×Nat)) (vs:Value),j<=n/\i=.int .i64 (j:Nat)/\IsRow w wr r b (Zb6 s) (befI (n+1)) (behI n) st va (.slice A6 (n+1) c6) vc vs/\StUp V.mer (Zb6 s) (List.range (n+1)) j st) (λi _=>n-(intOf i).toNat);case atStart=>exact⟨0,[],_,Ybd _,rfl,HR9.out,StUp.nil _ _ _⟩
   case round=>
    obtain⟨j,st,vs,hj,rfl,hR,hU⟩:=hrel;clear HR9;have hul:=hU.len;rcases Yab j n with hlt|hge
    ·have hjq:(List.range (n+1))[j]?=some j:=Ycd (by omega)
     have hbl:(Zb6 s).length=n:=by rw[Za8,HSL.out]
     have hso:=HO.out.stepAt (M:=V.mer) hjq (by rw[hbl];exact hlt);have hsm:=λx hx=>HO.out.step_small (M:=V.mer) (j:=j) (x:=x) hx;have hinc:=HO.out.inc;obtain⟨o,ho⟩:=Ze (Za5 V.mer (Zb6 s) (List.range (n+1)) j);rw[<- ho]at hso;have hstep:=Zjd w wr r b V (HC.out.below hR.below) ⟨_,_,_,_,hR⟩ hso.1;have HSTEP:=Zh hstep;have HR:=Zh hR;have HU:=Zh hU;have hjn:(j:Int)<(n:Int):=by omega
     have hjz:(0:Int)<=(j:Int):=by omega
     have HINC:=Zh hinc;have HSO2:=Zh hso.2;have HSM:=Zh hsm;have HO2:=Zh ho;clear hR hU hstep hso hinc hsm ho hjq hbl;cases o with
     | none=>
      go_wp2_with fail;refine HSTEP.out.mono ?_;rintro e w1 ⟨x,y,rfl,hk,hb⟩;have HR2:=Zh ((HR.out.then hb).then ((Ybm _ w1).alloc (Yar _) (.cells #[.int .i64 x,.int .i64 y] 201)));clear hk hb;go_wp2_with fail;go_roundw;case rel=>exact⟨j+1,st,vs,by omega,by go_num,HR2.out,HU.out.skip HO2.out.symm⟩
      case measure=>simp[intOf];omega
     | some sp=>
      obtain⟨k,p⟩:=sp;obtain rfl:j=p:=Int.ofNat.inj (HSO2.out k p rfl);have hkp:=HSM.out (k,j) HO2.out.symm;have hfl:(st++[(k,j)]).flatMap stV=st.flatMap stV++[.int .i64 k,.int .i64 j]:=by rw[Ybg];rfl
      have hll:(st++[(k,j)]).length=st.length+1:=by simp
      have HAP:Hid ((st++[(k,j)]).length=st.length+1/\(st++[(k,j)]).flatMap stV=st.flatMap stV++[.int .i64 k,.int .i64 j]):=Zh ⟨hll,hfl⟩;have HSF:Hid (∀ s∈st++[(k,j)],s.1<=1048576/\s.2<=1048576):=Zh (λs hs=>by
       rcases Ybj.1 hs with h|h
       ·exact HR.out.stF s h
       ·rw[Ybi.1 h];exact⟨by have:=hkp.1;omega,by have:=hkp.2;omega⟩)
      clear hkp hfl hll;go_wp2_with fail;refine HSTEP.out.mono ?_;rintro e w1 ⟨x,y,rfl,hk,hb⟩;obtain⟨rfl,rfl⟩:=hk k rfl;obtain⟨W2,hW2⟩:=Ze (w1.alloc (.cells #[.int .i64 k,.int .i64 (j:Nat)] 201));have HST:Hid (Blk W2 w1.heap.size 201 #[.int .i64 k,.int .i64 (j:Nat)]):=Zh (by rw[hW2];exact Blk.new _ _ _);have b1:Below w1.heap.size w1 W2:=by rw[hW2];exact(Ybm _ w1).alloc (Yar _) _
      have HNS:Hid (vs.ownBlock≠some w1.heap.size):=Zh (λe=>Ycm _ ((HR.out.then hb).stR.lt _ e).2);have HNR:Hid (w1.heap.size≠r):=Zh (λe=>by have:=(HR.out.then hb).blk.lt;omega);have HB:=Zh ((HR.out.then hb).then b1);have HW2:=Zh hW2;clear hk hb b1 hW2;go_wp2_with fail;rw[<- HW2.out];refine Yb8 (S:=λw'=>w'.cell? ⟨w1.heap.size,0,none⟩=some (.int .i64 k)/\w'.cell? ⟨w1.heap.size,1,none⟩=some (.int .i64 (j:Nat))) (by kernel_rfl) (Zam HST.out) (λhHeld=>?_);obtain⟨u0,hu0⟩:=Ze W2.drew;rw[<- hu0]at hHeld ⊢;have hb0:Below W2.heap.size W2 u0:=by rw[hu0];exact(Ybm _ W2).drew
      have HR0:=Zh (HB.out.then hb0);have HST0:=Zh (HST.out.below hb0 HST.out.lt);clear hu0 hb0;refine tk 0 ?_;(try simp only[Act.put,lz3,lz4,lz5]);refine tk 1 ?_;(try simp only[Act.put,lz3,lz4,lz5]);refine tk 5 ?_;(try simp only[Act.put,lz3,lz4,lz5]);refine tk 2 ?_;(try simp only[Act.put,lz3,lz4,lz5]);refine tk 3 ?_;(try simp only[Act.put,lz3,lz4,lz5]);refine rd2 4 6 ?ss6 ?ss7;case ss6=>
       intro K hK;have yq35:u0.cell? ⟨r,4,none⟩=some vs:=by have:=HR0.out.blk.cell 4;simpa using this
       go_simp;clear yq35;refine hK.out _ _ (Zam HST0.out) (λhs8=>?_);clear hK K;(try simp only[Act.put,lz3,lz4,lz5]);refine rd1 6 ?ss9;case ss9=>
        intro K hK;go_simp;obtain⟨uq36,huq37⟩:=Ze (u0.alloc (.cells #[.int .i64 k,.int .i64 (j:Nat)] 201));have Nq40:Hid (Blk uq36 u0.heap.size 201 #[.int .i64 k,.int .i64 (j:Nat)]):=Zh (by rw[huq37];exact Blk.new _ _ _);rw[<- huq37];have hbq38:Below u0.heap.size u0 uq36:=by rw[huq37];exact(Ybm _ u0).alloc (Yar _) _
        have Rq39:=Zh (HR0.out.then hbq38);have Tq41:=Zh (HST0.out.below hbq38 HST0.out.lt);have Tq41n:Hid (vs.ownBlock≠some u0.heap.size):=Zh (λe=>Ycm _ (HR0.out.stR.lt _ e).2);clear huq37 hbq38;refine hK.out _ _ (Zam Tq41.out) (λhs10=>?_);clear hK K;(try simp only[Act.put,lz3,lz4,lz5]);refine rd1 7 ?ss11;case ss11=>
         intro K hK;refine Zbq _ rfl (.tmp 87) (.tmp 89) 128 rfl w.heap.size 201 j0 _ 2 16 Tryz.underlying128 hj0 hy0 hy1 hy2 rfl (by omega) vs _ _ rfl Rq39.out.stR (some ⟨u0.heap.size,0,none⟩) 1 1 [.int .i64 k,.int .i64 (j:Nat)] rfl ⟨rfl,λad e j u hu=>by cases e;rw[Zaz,Nq40.out.cell];simpa using hu,λe=>by cases e⟩ (by simp[Value.oneCell']) (by unfold maxLen;omega) (by omega) Rq39.out.below.size ?_;intro v' uq42 hwq43 hgq44 hlq45;obtain⟨Aq46,cq47,rfl⟩:=Zac hwq43;have Bq48:=Zh (Rq39.out.blk.grown hgq44 (λe=>Zah Rq39.out.stR Rq39.out.blk (by decide) e.symm));have Tq49:=Zh (Tq41.out.grown hgq44 (λe=>HNS.out e.symm));have Hhwq43:=Zh hwq43;have Hhgq44:=Zh hgq44;clear hwq43 hgq44 hlq45;refine hK.out _ _ (Zam Tq49.out) (λhs12=>?_);clear hK K;(try simp only[Act.put,lz3,lz4,lz5]);refine tk 8 ?_;(try simp only[Act.put,lz3,lz4,lz5]);refine tk 9 ?_;(try simp only[Act.put,lz3,lz4,lz5]);refine rd1 10 ?ss15;case ss15=>
          intro K hK;have yq50:uq42.cell? ⟨r,4,none⟩=some vs:=by have:=Bq48.out.cell 4;simpa using this
          have zq51:=Bq48.out.frozen 4;go_simp;clear yq50 zq51;have Fq52:=Zh (Rq39.out.setSt (st':=st++[(k,j)]) (vs':=(.slice Aq46 (st.length+1) cq47)) (w2:=uq42) (by rw[HAP.out.1,HAP.out.2];exact Hhwq43.out) Hhgq44.out (by rw[HAP.out.1];omega) HSF.out);have Tq53:=Zh (Tq49.out.far (p:=⟨r,4,none⟩) HNR.out (.slice Aq46 (st.length+1) cq47));refine hK.out _ _ (Zam Tq53.out) (λhs16=>?_);clear hK K;(try simp only[Act.put,lz3,lz4,lz5]);refine Yb9 (by kernel_rfl) ?_ _;go_wp2_with fail;go_roundw;case rel=>exact⟨j+1,_,_,by omega,by go_num,Fq52.out,HU.out.push HINC.out HO2.out.symm⟩
          case measure=>simp[intOf];omega
      case ss7=>
       intro K hK;go_simp;obtain⟨uq54,huq55⟩:=Ze (u0.alloc (.cells #[.int .i64 k,.int .i64 (j:Nat)] 201));have Nq58:Hid (Blk uq54 u0.heap.size 201 #[.int .i64 k,.int .i64 (j:Nat)]):=Zh (by rw[huq55];exact Blk.new _ _ _);rw[<- huq55];have hbq56:Below u0.heap.size u0 uq54:=by rw[huq55];exact(Ybm _ u0).alloc (Yar _) _
       have Rq57:=Zh (HR0.out.then hbq56);have Tq59:=Zh (HST0.out.below hbq56 HST0.out.lt);have Tq59n:Hid (vs.ownBlock≠some u0.heap.size):=Zh (λe=>Ycm _ (HR0.out.stR.lt _ e).2);clear huq55 hbq56;refine hK.out _ _ (Zam Tq59.out) (λhs17=>?_);clear hK K;(try simp only[Act.put,lz3,lz4,lz5]);refine rd1 4 ?ss18;case ss18=>
        intro K hK;have yq60:uq54.cell? ⟨r,4,none⟩=some vs:=by have:=Rq57.out.blk.cell 4;simpa using this
        go_simp;clear yq60;refine hK.out _ _ (Zam Tq59.out) (λhs19=>?_);clear hK K;(try simp only[Act.put,lz3,lz4,lz5]);refine rd1 7 ?ss20;case ss20=>
         intro K hK;refine Zbq _ rfl (.tmp 87) (.tmp 89) 128 rfl w.heap.size 201 j0 _ 2 16 Tryz.underlying128 hj0 hy0 hy1 hy2 rfl (by omega) vs _ _ rfl Rq57.out.stR (some ⟨u0.heap.size,0,none⟩) 1 1 [.int .i64 k,.int .i64 (j:Nat)] rfl ⟨rfl,λad e j u hu=>by cases e;rw[Zaz,Nq58.out.cell];simpa using hu,λe=>by cases e⟩ (by simp[Value.oneCell']) (by unfold maxLen;omega) (by omega) Rq57.out.below.size ?_;intro v' uq61 hwq62 hgq63 hlq64;obtain⟨Aq65,cq66,rfl⟩:=Zac hwq62;have Bq67:=Zh (Rq57.out.blk.grown hgq63 (λe=>Zah Rq57.out.stR Rq57.out.blk (by decide) e.symm));have Tq68:=Zh (Tq59.out.grown hgq63 (λe=>HNS.out e.symm));have Hhwq62:=Zh hwq62;have Hhgq63:=Zh hgq63;clear hwq62 hgq63 hlq64;refine hK.out _ _ (Zam Tq68.out) (λhs21=>?_);clear hK K;(try simp only[Act.put,lz3,lz4,lz5]);refine tk 8 ?_;(try simp only[Act.put,lz3,lz4,lz5]);refine tk 9 ?_;(try simp only[Act.put,lz3,lz4,lz5]);refine rd1 10 ?ss24;case ss24=>
          intro K hK;have yq69:uq61.cell? ⟨r,4,none⟩=some vs:=by have:=Bq67.out.cell 4;simpa using this
          have zq70:=Bq67.out.frozen 4;go_simp;clear yq69 zq70;have Fq71:=Zh (Rq57.out.setSt (st':=st++[(k,j)]) (vs':=(.slice Aq65 (st.length+1) cq66)) (w2:=uq61) (by rw[HAP.out.1,HAP.out.2];exact Hhwq62.out) Hhgq63.out (by rw[HAP.out.1];omega) HSF.out);have Tq72:=Zh (Tq68.out.far (p:=⟨r,4,none⟩) HNR.out (.slice Aq65 (st.length+1) cq66));refine hK.out _ _ (Zam Tq72.out) (λhs25=>?_);clear hK K;(try simp only[Act.put,lz3,lz4,lz5]);refine Yb9 (by kernel_rfl) ?_ _;go_wp2_with fail;go_roundw;case rel=>exact⟨j+1,_,_,by omega,by go_num,Fq71.out,HU.out.push HINC.out HO2.out.symm⟩
          case measure=>simp[intOf];omega
    ·obtain rfl:n=j:=by omega
     obtain⟨A9,c9,rfl⟩:=Zac hR.stR;have y4:=hR.cl.2.2.2.2;have HR:=Zh hR;have HU:=Zh hU;have hstl:=hR.small.2.2.2;clear hR hU;go_wp2_with fail;refine(Zz9 wr w.heap.size _ st HR.out.stR hstl).mono ?_;rintro e w2 ⟨rfl,st',hp,hs,hown,hg⟩;have hok:=HU.out.ok (by rw[Za8,HSL.out];exact Yar _) hp hs;have hpl:st'.length<=n:=by rw[hp.length_eq];exact hul
     have hfin:=HR.out.sorted hown hg (by omega) (λs hs'=>HR.out.stF s (hp.mem_iff.1 hs'));have HOK:=Zh hok;have HF:=Zh hfin;clear y4 hp hs hown hg hok hfin;go_wp2_with fail;go_ret;refine⟨r,st',rfl,?_,?_,?_⟩
     ·rw[HSL.out];exact⟨_,_,_,_,HF.out⟩
     ·rw[HSL.out];exact HOK.out
     ·rw[HSL.out];exact hpl
def Qe1 (w0:World) (r b:Nat) (M:List Mg) (n:Nat) (l:List Int) (m:Nat) (e:Ending) (w':World):Prop:=
 ∃ k i qs at_ before behind st,e=.returned (.tuple #[])/\Zdm M l=some (k,i)/\Row w0 w' r b at_ before behind st/\RowOK n (Za2 l i (toOf M k)) qs at_ before behind/\StOK st (Zcg M (Za2 l i (toOf M k)) qs)/\st.length<=m+1
theorem Zlv (w0 w:World) (r b:Nat) (V:Voc) (hC:Coder w0 b V) {n:Nat} {l:List Int} {qs:List Nat} {at_ before behind:List Int} {st:List (Nat×Nat)} (hR:Row w0 w r b at_ before behind st)
  (hO:RowOK n l qs at_ before behind) (hS:StOK st (Zcg V.mer l qs)) (hne:0<st.length) (hsm:st.length<=1000000) (hn:n<=1000000) (hM:V.mer.length<=1000000):
  Calls Tryz.prog 62 #[at0 r] w (Qe1 w0 r b V.mer n l st.length):=by
 obtain⟨va,vb,vc,vs,hR⟩:=hR;have hlast:st[st.length-1]?=some (st[st.length-1]'(by omega)):=Yax _;obtain⟨s,hs⟩:=Ze (st[st.length-1]'(by omega));rw[<- hs]at hlast;obtain⟨k,p⟩:=s;obtain⟨i,g,q,hbest,hp,hg,hq,hstep⟩:=Zxn hO hS hlast;have hil:i+1<l.length:=by
  have:=(Ybb.1 hq).1
  rw[hO.len]at this;omega
 obtain⟨pa,hpa,hst1⟩:=hO.ahead hp (by omega) V.mer;have hbg:=hO.beh i p g hp hg;have hbq:=hO.beh (i+1) g q hg hq;have hap:=hO.tok i _ p (Yax (by omega)) hp;obtain⟨xa,hxa⟩:=Ze (l[i]'(by omega));rw[<- hxa]at hap;have hqB:before[q]?=some (g:Int):=hO.bef (i+1) g q hg hq;have hpn:p<n:=hO.lt (by omega) hp;have hgn:g<n:=hO.lt (by omega) hg;have hqn:q<=n:=hO.le hq;have hpg:p<g:=hO.inc i (i+1) p g (by omega) hp hg;have hgq:g<q:=hO.inc (i+1) (i+2) g q (by omega) hg hq;obtain⟨hkl,m,hm⟩:k<V.mer.length/\∃ m,V.mer[k]?=some m:=by
  obtain⟨a,b,_,_,h⟩:=Zci (Zki hbest);obtain⟨h1,m,h2,_⟩:=Zf3 h;exact⟨h1,m,h2⟩
 have hto:toOf V.mer k=m.t:=by unfold toOf;rw[Yaw,hm];rfl
 obtain⟨ads,cs,e1,_,l1,l2⟩:=Zlp hR.stR hlast;subst e1;obtain⟨ada,ca,e1,_,_⟩:=Zb2 hR.atR hap;subst e1;obtain⟨adb,cb,e1,_,_⟩:=Zb2 hR.befR hpa;subst e1;obtain⟨adc,cc,e1,_,_⟩:=Zb2 hR.behR hbg;subst e1;have HR:=Zh hR;have HO:=Zh hO;have HS:=Zh hS;have HC:=Zh hC;have HNS:Hid (ads.block≠w.heap.size):=Zh (λe=>by have:=(hR.stR.lt _ rfl).2;omega);have HNA:Hid (ada.block≠w.heap.size):=Zh (λe=>by have:=(hR.atR.lt _ rfl).2;omega);have HNB:Hid (adb.block≠w.heap.size):=Zh (λe=>by have:=(hR.befR.lt _ rfl).2;omega);have HNC:Hid (adc.block≠w.heap.size):=Zh (λe=>by have:=(hR.behR.lt _ rfl).2;omega);have HNR:Hid (w.heap.size≠r):=Zh (λe=>by have:=hR.blk.lt;omega);have g4:w.cell? ⟨r,4,none⟩=some (.slice (some ads) st.length cs):=hR.cl.2.2.2.2;obtain⟨N,hN⟩:=Ze st.length;rw[<- hN]at g4 hne hsm l1 l2;obtain⟨NA,hNA⟩:=Ze at_.length;obtain⟨NB,hNB⟩:=Ze before.length;obtain⟨NC,hNC⟩:=Ze behind.length;have hN1:IntKind.i64.wrap ((N:Int)-1)=((N-1:Nat):Int):=by rw[IntKind.wrap_i64];omega
 have hN2:((N-1:Nat):Int)<(N:Int):=by omega
 have bA:(p:Int)<(NA:Int):=by rw[hNA,hO.atL];omega
 have bB:(p:Int)<(NB:Int):=by rw[hNB,hO.befL];omega
 have bB2:(q:Int)<(NB:Int):=by rw[hNB,hO.befL];omega
 have bC:(p:Int)<(NC:Int):=by rw[hNC,hO.behL];omega
 have bC2:(g:Int)<(NC:Int):=by rw[hNC,hO.behL];omega
 have hp0:(0:Int)<=(p:Int):=by omega
 have hg0:(0:Int)<=(g:Int):=by omega
 have hq0:(0:Int)<=(q:Int):=by omega
 have hk0:(0:Int)<=(k:Int):=by omega
 have hkM:(k:Int)<(V.mer.length:Int):=by omega
 have HN:=Zh hN;have HNa:=Zh hNA;have HNb:=Zh hNB;have HNc:=Zh hNC;have HBG:=Zh hbg;have HBQ:=Zh hbq;have HAP:=Zh hap;have HPA:=Zh hpa;have HQB:=Zh hqB;have HST1:=Zh hst1;have HBEST:=Zh hbest;have HSTEP:=Zh hstep;have HP:=Zh hp;have HG:=Zh hg;have HQ:=Zh hq;have HM:=Zh hm;have HTO:=Zh hto;clear hR hO hS hC hs hlast hN hNA hNB hNC hbg hbq hap hpa hqB hst1 hbest hstep hp hg hq hm hto hxa;unfold at0;go_enter Tryz.func62,Tryz.ntmps62;go_wp2_with fail;refine Yb8 (S:=λw'=>w'.cell? ⟨r,4,none⟩=some (.slice (some ads) N cs)/\w'.cell? (ads.add ((N-1)*2))=some (.int .i64 k)/\w'.cell? ⟨(ads.add ((N-1)*2)).block,(ads.add ((N-1)*2)).off+1,none⟩=some (.int .i64 p)) (by kernel_rfl) ⟨g4,l1,l2⟩ (λhHeld=>?_);refine tk 0 ?_;try simp only[Act.put,lz3,lz4,lz5]
 refine tk 4 ?_;try simp only[Act.put,lz3,lz4,lz5]
 refine tk 1 ?_;try simp only[Act.put,lz3,lz4,lz5]
 refine tk 5 ?_;try simp only[Act.put,lz3,lz4,lz5]
 refine tk 2 ?_;try simp only[Act.put,lz3,lz4,lz5]
 refine tk 6 ?_;try simp only[Act.put,lz3,lz4,lz5]
 refine tk 3 ?_;try simp only[Act.put,lz3,lz4,lz5]
 refine tk 7 ?_;try simp only[Act.put,lz3,lz4,lz5]
 refine tk 8 ?_;try simp only[Act.put,lz3,lz4,lz5]
 refine tk 9 ?_;try simp only[Act.put,lz3,lz4,lz5]
 refine tk 10 ?_;try simp only[Act.put,lz3,lz4,lz5]
 refine tk 11 ?_;try simp only[Act.put,lz3,lz4,lz5]
 refine rd1 12 ?st13;case st13=>
  intro K hK;go_simp;obtain⟨W1,hW1⟩:=Ze ((w.alloc (.cells #[.int .i64 0,.int .i64 0] 201)).drew);have HN1:Hid (Blk W1 w.heap.size 201 #[.int .i64 0,.int .i64 0]):=Zh (by rw[hW1];exact(Blk.new w _ _).drew);rw[<- hW1];have hb1:Below w.heap.size w W1:=by rw[hW1];exact((Ybm _ w).alloc (Yar _) _).drew
  have HB1:=Zh hb1;clear hW1 hb1;refine hK.out _ _ ⟨Zag HB1.out g4,Zag HB1.out l1,Zag HB1.out l2⟩ (λht14=>?_);clear hK K;try simp only[Act.put,lz3,lz4,lz5]
  refine rd1 13 ?st15;case st15=>
   intro K hK;have y0:=HN1.out.cell 0;have y1:=HN1.out.cell 1;simp only[lz0,lz1,lz2]at y0 y1;have z0:=HN1.out.frozen 0;have z1:=HN1.out.frozen 1;go_simp;clear y0 y1 z0 z1;obtain⟨W2,hW2⟩:=Ze ((W1.setCell ⟨w.heap.size,0,none⟩ (.int .i64 k)).setCell ⟨w.heap.size,1,none⟩ (.int .i64 p));have HN2:Hid (Blk W2 w.heap.size 201 #[.int .i64 k,.int .i64 p]):=Zh (by
    rw[hW2];have:=(HN1.out.set_ 0 (.int .i64 k)).set_ 1 (.int .i64 p)
    simpa using this)
   rw[<- hW2];have HB2:Hid (Below w.heap.size w W2):=Zh (by rw[hW2];exact(HB1.out.setCell (Yar _) _).setCell (Yar _) _);clear hW2;refine hK.out _ _ ⟨Zag HB2.out g4,Zag HB2.out l1,Zag HB2.out l2⟩ (λht16=>?_);clear hK K;(try simp only[Act.put,lz3,lz4,lz5]);refine Yb9 (by kernel_rfl) ?_ _;skip;have HR2:=Zh (HR.out.then HB2.out);obtain⟨_,_,f2,f3,_⟩:=HR2.out.cl;rw[<- HNb.out]at f2;rw[<- HNc.out]at f3;have f1:W2.cell? ⟨w.heap.size,1,none⟩=some (.int .i64 p):=(Zam HN2.out).2;have x1:=(Zbz HR2.out.behR HBG.out).1;have x2:=(Zbz HR2.out.befR HPA.out).1;clear g4 l1 l2;go_wp2_with fail;clear f1 f2 f3 x1 x2;obtain⟨d1,d2,d3,d4,d5⟩:=HO.out.drop3 HS.out i;have D1:=Zh d1;have D2:=Zh d2;have D3:=Zh d3;have D4:=Zh d4;have D5:=Zh d5;clear d1 d2 d3 d4 d5;refine(Zm7 w0 W2 r b V HC.out HR2.out HS.out.sorted HST1.out (λx hx=>HS.out.at_ (by
    obtain⟨j,_,hj⟩:=stepAhead_some.1 hx;exact⟨j,hj⟩))).mono ?_
   rintro e W3 ⟨rfl,v3,hR3,hK3⟩;have HR3:=Zh hR3;have HK3:=Zh hK3;clear hR3 hK3;go_wp2_with fail;refine(Zm7 w0 W3 r b V HC.out HR3.out D1.out.sorted (HO.out.stepAt HP.out (by omega)) (λx hx=>D1.out.at_ (D2.out x hx))).mono ?_;rintro e W4 ⟨rfl,v4,hR4,hK4⟩;have HR4:=Zh hR4;have HK4:=Zh (HK3.out.trans hK4);clear hR4 hK4;go_wp2_with fail;refine(Zm7 w0 W4 r b V HC.out HR4.out D3.out.sorted (HO.out.stepAt HG.out hil) (λx hx=>D3.out.at_ (D4.out x hx))).mono ?_;rintro e W5 ⟨rfl,v5,hR5,hK5⟩;have HR5:=Zh hR5;have HK5:=Zh (HK4.out.trans hK5);clear hR5 hK5;have HN5:=Zh (HK5.out.blk HN2.out HNR.out (λe=>HNS.out (by simpa[Value.ownBlock]using e)));obtain⟨Ac,Bc,ca',cb',bp,D,csC,hC5⟩:=HC.out.below HR5.out.below;obtain⟨adm,e1,_,_,mt⟩:=hC5.mer.at_ k m HM.out;subst e1;have fm:=(hC5.mer.bound m (Ybz HM.out)).2.2;obtain⟨m0,m1,_,_,_⟩:=HR5.out.cl;have mc:W5.cell? ⟨b,1,none⟩=some (.slice (some adm) V.mer.length cb'):=by rw[hC5.blk.cell 1];exact hC5.c1
   have fk:=(Zam HN5.out).1;obtain⟨x1,z1⟩:=Zbz HR5.out.atR HAP.out;rw[<- HNa.out]at m1;clear hC5;go_wp2_with fail;go_still_tail 18,(by kernel_rfl);change wpList _ _ _ _ _ W5.drew;go_wp2_with fail;obtain⟨W6,hW6⟩:=Ze ((W5.setCell (ada.add p) (.int .i64 m.t)).drew);rw[<- hW6];have hR6:=(HR5.out.setAt (p:=p) (x:=m.t) fm).then ((Ybm _ _).drew)
   rw[<- hW6]at hR6;have HR6:=Zh hR6;have HN6:Hid (Blk W6 w.heap.size 201 #[.int .i64 k,.int .i64 p]):=Zh (by rw[hW6];exact(Blk.far HN5.out (by rw[Zct];exact λe=>HNA.out e.symm) _).drew);clear hW6 hR6 mt mc m0 m1 fk x1 z1;obtain⟨_,_,_,m3,_⟩:=HR6.out.cl;obtain⟨x2,_⟩:=Zbz HR6.out.behR HBQ.out;obtain⟨x1,z1⟩:=Zbz HR6.out.behR HBG.out;rw[<- HNc.out]at m3;go_still_tail 13,(by kernel_rfl);change wpList _ _ _ _ _ W6.drew;go_wp2_with fail;obtain⟨W7,hW7⟩:=Ze ((W6.setCell (adc.add p) (.int .i64 (q:Int))).drew);rw[<- hW7];have hR7:=(HR6.out.setBeh (p:=p) (x:=(q:Int)) ⟨by omega,by omega⟩).then ((Ybm _ _).drew)
   rw[<- hW7]at hR7;have HR7:=Zh hR7;clear hW7 hR7 m3 x1 x2 z1;obtain⟨_,_,m2,m3,_⟩:=HR7.out.cl;have hbq':(behind.set p (q:Int))[g]?=some (q:Int):=by rw[Ycn (by omega)];exact HBQ.out
   obtain⟨x2,_⟩:=Zbz (ad:=adc) (c:=cc) (n:=behind.length) (l:=behind.set p (q:Int)) (by have:=HR7.out.behR;rw[Ybp]at this;exact this) hbq';obtain⟨x1,z1⟩:=Zbz HR7.out.befR HQB.out;rw[<- HNc.out]at m3;rw[<- HNb.out]at m2;clear hbq';have hO8:=HO.out.merge HP.out HG.out HQ.out m.t;obtain⟨hA8,hB8⟩:=HO.out.add2 HS.out HP.out HG.out HQ.out m.t;have hp':(qs.eraseIdx (i+1))[i]?=some p:=by rw[List.getElem?_eraseIdx,Yag (by omega)];exact HP.out
   have hil':i<(Za2 l i m.t).length:=by rw[Zeg hil];omega
   have hpa':(before.set q (p:Int))[p]?=some pa:=by rw[Ycn (by omega)];exact HPA.out
   have hR8:=(HR7.out.setBef (p:=q) (x:=(p:Int)) ⟨by omega,by omega⟩).then ((Ybm _ _).drew)
   obtain⟨_,_,n2,_,_⟩:=hR8.cl;obtain⟨y1,_⟩:=Zbz (ad:=adb) (c:=cb) (n:=before.length) (l:=before.set q (p:Int)) (by have:=hR8.befR;rw[Ybp]at this;exact this) hpa';rw[<- HNb.out]at n2;obtain⟨W8,hW8⟩:=Ze ((W7.setCell (adb.add q) (.int .i64 (p:Int))).drew);rw[<- hW8]at hR8;have n2':(W7.setCell (adb.add q) (.int .i64 (p:Int))).cell? ⟨r,2,none⟩=some (.slice (some adb) NB cb):=n2;have y1':(W7.setCell (adb.add q) (.int .i64 (p:Int))).cell? (adb.add p)=some (.int .i64 pa):=y1;obtain⟨pa2,e1,hst2⟩:=hO8.ahead hp' hil' V.mer;obtain rfl:pa=pa2:=by rw[hpa']at e1;exact Ya9 e1
   have hst3:=hO8.stepAt (M:=V.mer) hp' hil';have l3:(st3 V.mer l qs i st).length+1<=st.length:=by
    have a1:=Zpr st (Zaw V.mer l qs i);have a2:=Zu0 D1.out (D2.out _ HSTEP.out);have a3:=Zpr (dropO (dropO st (Zaw V.mer l qs i)) (some (k,p))) (Za5 V.mer l qs (i+1));show(dropO (dropO (dropO st (Zaw V.mer l qs i)) (Za5 V.mer l qs i)) (Za5 V.mer l qs (i+1))).length+1<=_;rw[HSTEP.out];omega
   have l4:=Zs1 (st3 V.mer l qs i st) (Zaw V.mer (Za2 l i m.t) (qs.eraseIdx (i+1)) i);have l5:=Zs1 (addO (st3 V.mer l qs i st) (Zaw V.mer (Za2 l i m.t) (qs.eraseIdx (i+1)) i)) (Za5 V.mer (Za2 l i m.t) (qs.eraseIdx (i+1)) i);have L3:=Zh l3;have L4:=Zh l4;have L5:=Zh l5;have HT2:=Zh hst2;have HT3:=Zh hst3;have HR8:=Zh hR8;have HW8:=Zh hW8;have HO8:=Zh hO8;have HA8:=Zh hA8;have HB8:=Zh hB8;clear hpa' hR8 hW8 hO8 hA8 hB8 n2 y1 hp' hil' e1 hst2 hst3 l3 l4 l5;go_still_tail 13,(by kernel_rfl);change wpList _ _ _ _ _ W7.drew;go_wp2_with fail;rw[<- HW8.out];clear m2 m3 x1 x2 z1 n2' y1';refine(Zzo w0 W8 r b V HC.out HR8.out D5.out.sorted HT2.out (by have h1:=L3.out;have h2:=HN.out;exact(by omega:(st3 V.mer l qs i st).length<1048576)) (λx hx=>by
    obtain⟨j,_,hj⟩:=stepAhead_some.1 hx;have:=HO8.out.step_small hj
    omega)).mono ?_
   rintro e W9 ⟨rfl,v9,hR9,_⟩;have HR9:=Zh hR9;clear hR9;go_wp2_with fail;refine(Zzo w0 W9 r b V HC.out HR9.out HA8.out.sorted HT3.out (by have h1:=L3.out;have h2:=HN.out;have h3:=L4.out;exact(by omega:(addO (st3 V.mer l qs i st) (Zaw V.mer (Za2 l i m.t) (qs.eraseIdx (i+1)) i)).length<1048576)) (λx hx=>by
    have:=HO8.out.step_small hx
    omega)).mono ?_
   rintro e W10 ⟨rfl,v10,hR10,_⟩;have HR10:=Zh hR10;clear hR10;go_wp2_with fail;go_end0;refine⟨k,i,qs.eraseIdx (i+1),_,_,_,_,rfl,HBEST.out,⟨_,_,_,_,HR10.out⟩,?_,?_,?_⟩
   ·rw[HTO.out];exact HO8.out
   ·rw[HTO.out];exact HB8.out
   ·have h1:=L3.out
    have h2:=L4.out;have h3:=L5.out;exact(by omega:(addO (addO (st3 V.mer l qs i st) (Zaw V.mer (Za2 l i m.t) (qs.eraseIdx (i+1)) i)) (Za5 V.mer (Za2 l i m.t) (qs.eraseIdx (i+1)) i)).length<=st.length+1)
end
end Go.Proofs.YthcjikpabpgpfaaGreat
