import Derived.Test.YthcjikpabpgpfaaGreatZp3
set_option linter.unusedSimpArgs false
set_option maxHeartbeats 16000000
set_option maxRecDepth 100000
namespace Go.Proofs.YthcjikpabpgpfaaGreat
open Go.RowKit Go.Maps Go.WideMaps
theorem Qbc:(Tryz.prog.info? 3).map (λi=>(i.zero,i.size,i.bytes))=some (some (.int .i64 0),1,8):=by kernel_rfl
theorem Zw9 (w:World):(sizeOf (Tryz.prog.elem 52)).run Tryz.prog w=.ok 1 w:=by
 obtain⟨i0,hi,hz0,hz1,hz2⟩:=info_parts Qbc;rw[show Tryz.prog.elem 52=3 by kernel_rfl,run_sizeOf w hi];unfold Program.cellsOf;rw[hi];simp[hz1]
theorem Zoq (w:World) (A:Option Addr) (n c p:Nat) (hp:p<=n):(Instr.slice 52 (.slice A n c) (some (.int .i64 p)) none none).run Tryz.prog w=.ok (.slice (Zak A p c) (n-p) (c-p)) w:=by
 rw[run_slice_l (P:=Tryz.prog) (w:=w) 52 A n c Tryz.underlying52 .i64 p (by omega) (by omega),Zw9];simp[Result.andThen,sliced,Zak]
def Zfu (w:World) (p:Value):Nat:=match p with| .pointer (some q)=>(match w.cell? q with|some (.int _ z)=>z.toNat|_=>0)|_=>0
theorem Zg5 {w:World} {g:Nat} {t:TypeId} {k:IntKind} {z:Int} (h:Blk w g t #[.int k z]):Zfu w (at0 g)=z.toNat:=by
 have:=h.cell 0
 simp at this;unfold Zfu at0;simp only;rw[this]
theorem Zkb (ad:Addr) (c:Nat) (h:c≠1):Zak (some ad) 1 c=some (ad.add 1):=by unfold Zak;rw[Yaf h];rfl
end Go.Proofs.YthcjikpabpgpfaaGreat
