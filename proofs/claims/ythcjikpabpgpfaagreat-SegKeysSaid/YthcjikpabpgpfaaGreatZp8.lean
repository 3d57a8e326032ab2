import Derived.Test.YthcjikpabpgpfaaGreatZp0
import Derived.Test.YthcjikpabpgpfaaGreatZp3
set_option linter.unusedSimpArgs false
set_option maxHeartbeats 16000000
set_option maxRecDepth 100000
namespace Go.Proofs.YthcjikpabpgpfaaGreat
theorem intInfo1:(Tryz.prog.info? 3).map (fun i=>(i.zero,i.size,i.bytes))=some (some (.int .i64 0),1,8):=by kernel_rfl
end Go.Proofs.YthcjikpabpgpfaaGreat
namespace Go.Proofs.YthcjikpabpgpfaaGreat
open Go.RowKit Go.Maps Go.WideMaps
theorem rowBase_le {w:World} {base base':Nat} {e:TypeId} {size n:Nat} {v:Value} {xs:List Value} (h:w.ownsRow base e size v n xs) (hb:base'≤base):w.ownsRow base' e size v n xs:=
 ⟨h.1,h.2.imp id fun ⟨g,cap,cur,h1,h2,h3⟩=>⟨g,cap,cur,h1,Nat.le_trans hb h2,h3⟩⟩
theorem rowCap_le {w:World} {base:Nat} {e:TypeId} {size n c m:Nat} {A:Option Addr} {xs:List Value} (h:w.ownsRow base e size (.slice A n c) m xs):n≤c:=by
 rcases h.2 with ⟨h1,_⟩ | ⟨g,cap,cur,h1,_,_,h2,_⟩
 ·cases h1;exact Nat.le_refl _
 ·cases h1;exact h2
theorem step_append_recK {P:Program} (w:World) {ops:Array Oper} {o:Oper} {a:Act} {K:Act→World→Prop} {Q:Exit→Act→World→Prop} {E:Prop} (hgd:o.guard=none) (s x:Operand) (t:TypeId)
  (ho:o.op=.call { callee:=.builtin .append,args:=#[s,x],argTypes:=#[t,t] })
  (base:Nat) (e:TypeId) (i:TypeInfo) (z:Value) (size bytes:Nat) (ht:P.underlying t=some (.slice e)) (hi:P.info? e=some i) (hz:i.zero=some z)
  (hsize:i.size=size) (hby:i.bytes=bytes) (hzs:z.cells.size=size) (hsz:0 < size)
  (v:Value) (n:Nat) (xs:List Value) (hs:a.eval s=v) (hown:w.ownsRow base e size v n xs)
  (ad:Addr) (m c:Nat) (news:List Value) (hx:a.eval x=.slice (some ad) m c) (hl:news.length=m * size) (hnews:∀ j u,news[j]?=some u→w.cell? (ad.add j)=some u) (h1:∀ u∈news,u.oneCell'=true)
  (h63:n+m≤maxLen) (hbytes:(n+m) * bytes≤140737488355328) (hbase:base≤w.heap.size)
  (h:∀ v' w',w'.ownsRow base e size v' (n+m) (xs++news)→w.grownBy w' v.ownBlock→(v'.ownBlock=v.ownBlock∨v'.ownBlock=some w.heap.size)→K (a.put o.dst v') w'):
  if Region.wanted o (yielded ops a.tmps)=true then Oper.wp P o a w K Q else E:=by
 have hw:Region.wanted o (yielded ops a.tmps)=true:=by simp [Region.wanted,hgd]
 rw [if_pos hw]
 obtain ⟨v',w',hrun,h2,h3,_,h4⟩:=run_append_own_at (P:=P) w base t o.type e i z size bytes ht hi hz hsize hby hzs hsz v n xs hown ad m c news hl hnews h1 h63 hbytes hbase
 unfold Oper.wp execOp
 simp only [ho,resolve,invoke,builtin,Sem.run_bind,Sem.run_pure,Result.andThen_ok,List.map_toArray,List.map_cons,List.map_nil,hs,hx,hrun]
 exact h v' w' h2 h3 h4
theorem intInfoP:(Tryz.prog.info? 3).map (fun i=>(i.zero,i.size,i.bytes))=some (some (.int .i64 0),1,8):=by kernel_rfl
theorem ints_size (w:World):(sizeOf (Tryz.prog.elem 52)).run Tryz.prog w=.ok 1 w:=by
 obtain ⟨i0,hi,hz0,hz1,hz2⟩:=info_parts intInfoP
 rw [show Tryz.prog.elem 52=3 by kernel_rfl,run_sizeOf w hi]
 unfold Program.cellsOf
 rw [hi]
 simp [hz1]
theorem ints_from (w:World) (A:Option Addr) (n c p:Nat) (hp:p≤n):(Instr.slice 52 (.slice A n c) (some (.int .i64 p)) none none).run Tryz.prog w=.ok (.slice (cutAddr A p c) (n - p) (c - p)) w:=by
 rw [run_slice_l (P:=Tryz.prog) (w:=w) 52 A n c Tryz.underlying52 .i64 p (by omega) (by omega),ints_size]
 simp [Result.andThen,sliced,cutAddr]
def cellNat (w:World) (p:Value):Nat:=match p with | .pointer (some q)=>(match w.cell? q with | some (.int _ z)=>z.toNat | _=>0) | _=>0
theorem cellNat_at {w:World} {g:Nat} {t:TypeId} {k:IntKind} {z:Int} (h:Blk w g t #[.int k z]):cellNat w (at0 g)=z.toNat:=by
 have:=h.cell 0
 simp at this
 unfold cellNat at0
 simp only
 rw [this]
theorem cutAddr_one (ad:Addr) (c:Nat) (h:c≠1):cutAddr (some ad) 1 c=some (ad.add 1):=by unfold cutAddr;rw [if_neg h];rfl
end Go.Proofs.YthcjikpabpgpfaaGreat
