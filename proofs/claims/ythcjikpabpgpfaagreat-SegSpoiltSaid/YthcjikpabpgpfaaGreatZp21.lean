import Derived.Test.YthcjikpabpgpfaaGreatZp0
import Derived.Test.YthcjikpabpgpfaaGreatZp17
set_option linter.unusedSimpArgs false
set_option maxHeartbeats 16000000
set_option maxRecDepth 100000
namespace Go.Proofs.YthcjikpabpgpfaaGreat
open Go.RowKit Go.Maps Go.WideMaps
theorem next_skip {s : CSt} (hV : ValidP s.l) (hw : CWF s) : cSkip s (cDoc s + 1) = cNext s := by
 have q4 := hw.at_
 by_cases h : s.at_ < s.l.length
 ·have hf : IsFirst s.l (cDoc s + 1) s.at_ (s.at_ + 1) := by
   unfold cDoc
   rw [if_pos h]
   refine ⟨by omega, by omega, fun i h1 h2 => ?_, fun h1 => ?_⟩
   ·obtain rfl : i = s.at_ := by omega
    omega
   ·have h3 := hV.up (s.at_ + 1) h1
    rw [lastD_succ] at h3
    omega
  unfold cSkip cNext
  rw [show skipN s.l (cDoc s + 1) (s.l.length - s.at_) s.at_ = s.at_ + 1 from hf.eq q4, if_pos h]
 ·unfold cSkip cNext
  rw [if_neg h, show s.l.length - s.at_ = 0 by omega]
  rfl
theorem k0_next {w : World} {F : Nat → Prop} {b : Nat} {s : CSt} (h : K0 w F b s) (hw : CWF s) : Calls Tryz.prog 67 #[.pointer (some ⟨b, 0, none⟩)] w fun e w' => e = .returned (.bool (cIn (cNext s))) ∧ ∃ F', K0 w' F' b (cNext s) ∧ Kept F w w' ∧ ∀ i, F' i → F i ∨ w.heap.size ≤ i := by
 have HD := Lib.hid (k0_doc h)
 have hs := k0_skip h hw (cDoc s + 1)
 rw [next_skip h.1 hw] at hs
 have HS := Lib.hid hs
 have hd : -1 ≤ cDoc s ∧ cDoc s ≤ 4294967296 := by
  unfold cDoc
  split
  ·rename_i h1
   have := h.1.docs _ (pAt_mem h1)
   omega
  ·omega
 obtain ⟨D, hD⟩ : ∃ D, D = cDoc s := ⟨_, rfl⟩
 rw [← hD] at HD HS hd
 have hw1 : IntKind.i64.wrap (D + 1) = D + 1 := IntWalk.i64_in _ (by omega)
 clear h hw hs hD
 go_enter Tryz.func67, Tryz.ntmps67
 go_wp2_with fail
 refine HD.out.mono ?_
 rintro e w1 ⟨rfl, rfl⟩
 go_wp2_with fail
 refine HS.out.mono ?_
 rintro e w2 ⟨rfl, ho⟩
 have HO := Lib.hid ho
 clear ho
 go_wp2
 go_ret
 exact ⟨rfl, HO.out⟩
end Go.Proofs.YthcjikpabpgpfaaGreat
