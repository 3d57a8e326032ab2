/- Rename as it is called. -/
import Derived.Test.YtblpppeppgfbpaaRename
namespace Go.Proofs.Ytblpppeppgfbpaa
open Go.RowKit Go.Maps Go.WideMaps

theorem three_boxes {w : World} {o1 o2 o3 : Obj} {F : Nat → Prop} : Kept F w (((w.alloc o1).alloc o2).alloc o3) := (((Kept.refl F w).alloc _).alloc _).alloc _

set_option maxHeartbeats 1000000 in
theorem Rename_any {w : World} {F : Nat → Prop} {b : Nat} {s : St} (hD : Disk w F b s) (hm : s.mid = false) (ha : s.acts < 1099511627776) (hcs : s.chs.length < 1099511627776) (x y : ByteArray) (hx : x.size ≤ maxLen) (hx0 : (dget s.now x.data.toList).isSome = true → x.size ≤ 281474976710656) (hy : y.size ≤ maxLen) :
    Calls Try.prog 38 #[at0 b, .string x, .string y] w (Left w F b (ActEnd s (TRename s x.data.toList y.data.toList))) := by
  have hD' := ((hD.alloc (.cells #[at0 b] 27)).alloc (.cells #[.string x] 9)).alloc (.cells #[.string y] 9)
  have b1 : Blk (((w.alloc (.cells #[at0 b] 27)).alloc (.cells #[.string x] 9)).alloc (.cells #[.string y] 9)) w.heap.size 27 #[at0 b] := ((Blk.new _ _ _).alloc _).alloc _
  have b2 : Blk (((w.alloc (.cells #[at0 b] 27)).alloc (.cells #[.string x] 9)).alloc (.cells #[.string y] 9)) (w.heap.size + 1) 9 #[.string x] := Blk.alloc blk_new1 _
  have b3 : Blk (((w.alloc (.cells #[at0 b] 27)).alloc (.cells #[.string x] 9)).alloc (.cells #[.string y] 9)) (w.heap.size + 1 + 1) 9 #[.string y] := by simpa using Blk.new ((w.alloc (.cells #[at0 b] 27)).alloc (.cells #[.string x] 9)) 9 #[.string y]
  have hc := act_any 65 #[at0 (w.heap.size + 1 + 1), at0 w.heap.size, at0 (w.heap.size + 1)] (enters_of Try.func65 (by kernel_rfl) rfl) hD' ha (TRename s x.data.toList y.data.toList) (fun _ _ => rename1_any hD' hm hcs x y hx hx0 hy b2 b3 b1)
  have HC := Lib.hid (hc.mono fun e w' (h : Left _ _ _ _ e w') => h.back three_boxes)
  clear hc b1 b2 b3 hD'
  unfold at0
  go_enter Try.func38, Try.ntmps38
  go_wp2_with (go_at_call 50; refine (Hid.out HC).mono ?_; rintro e w' ⟨n, s', F', rfl, hrest⟩)
  go_ret
  exact ⟨n, s', F', rfl, hrest⟩
end Go.Proofs.Ytblpppeppgfbpaa
