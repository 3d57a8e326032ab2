import Derived.Test.YthcjikpabpgpfaaGreatZp3
set_option linter.unusedSimpArgs false
set_option maxHeartbeats 16000000
set_option maxRecDepth 100000
namespace Go.Proofs.YthcjikpabpgpfaaGreat
open Go.RowKit Go.Maps Go.WideMaps
def Fits (L:List Nm):Prop:=∀ x∈L,x.length<=1099511627776
theorem Fits.at {L:List Nm} (h:Fits L) {k:Nat} {x:Nm} (hx:L[k]?=some x):x.length<=1099511627776:=h x (Ybz hx)
def tokI (L:List Nm) (i:Int):Nm:=if 0<=i/\i<L.length then L.getD i.toNat [] else []
def Zbg (L:List Nm) (l:List Int):Nat->Nm
 | 0=>[]
 | k+1=>Zbg L l k++tokI L (l.getD k 0)
theorem Zfc (L:List Nm) (l:List Int) {a b:Nat} (h:a<=b):(Zbg L l a).length<=(Zbg L l b).length:=by
 induction b with
 | zero=>obtain rfl:a=0:=by omega
         exact Yar _
 | succ b ih=>
  rcases Yab a (b+1)with h1|h1
  ·have:=ih (by omega)
   simp only[Zbg,Yaq];omega
  ·obtain rfl:a=b+1:=by omega
   exact Yar _
theorem Zuk {L:List Nm} {l:List Int} {k I:Nat} {x:Nm} (hi:l[k]?=some (I:Int)) (hx:L[I]?=some x):Zbg L l (k+1)=Zbg L l k++x:=by
 have hlt:=(Ybb.1 hx).1;simp only[Zbg,tokI,Yaw,hi,Ybw,Yb3,hx];rw[Yag ⟨by omega,by omega⟩]
theorem Qc3 {H:Type} {enc:TypeId×Value->H} {w:World} {A:Option Addr} {n c:Nat} {x:DataW H×List MemPlace} {fuel:Nat} {base:Nat} {spare:Nat->Bool} {held:Bool} (h:DataW.trod enc Tryz.prog w base spare held fuel 22 [.slice A n c]=some x) (_:Zuh 22 x.1):∃ l,PairsIn w A n l:=
 Qag Tryz.underlying22 (by kernel_rfl) (Qeb Tryz.underlying73 rfl rfl rfl (by kernel_rfl) Tryz.underlying3 Tryz.underlying3 (by kernel_rfl) (by kernel_rfl) rfl rfl) h
end Go.Proofs.YthcjikpabpgpfaaGreat
