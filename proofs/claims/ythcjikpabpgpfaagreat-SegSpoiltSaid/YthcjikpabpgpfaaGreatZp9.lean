import Derived.Test.YthcjikpabpgpfaaGreatZp0
import Derived.Test.YthcjikpabpgpfaaGreatZp6
import Derived.Test.YthcjikpabpgpfaaGreatZp3
import Derived.Test.YthcjikpabpgpfaaGreatZp5
import Derived.Test.YthcjikpabpgpfaaGreatZp1
import Derived.Laws.BitsAllLaws
import Derived.Deep.QuietTactic
import Derived.BigQuiet
import Derived.Deep.RegionHeld3
import Derived.Lib.SmallJoins
import Derived.Lib.MinMax
import Derived.Deep.DeepCutAuto
import Derived.Shelf.Abstract
import Derived.RegionTactic
import Derived.ChangeAlike
import Derived.StillTailTactics
import Derived.Test.YthcjikpabpgpfaaGreatZp7
set_option linter.unusedSimpArgs false
set_option maxHeartbeats 16000000
set_option maxRecDepth 100000
namespace Go.Proofs.YthcjikpabpgpfaaGreat
open Go.RowKit Go.Maps Go.WideMaps
theorem ValidP.ahead {l : List Pst} (h : ValidP l) {f : Nat} : ∀ {k : Nat}, f + k < l.length → lastD l f < (pAt l (f + k)).1
 | 0, hk => h.up f hk
 | k + 1, hk => by
  have h1 := h.ahead (f := f) (k := k) (by omega)
  have h2 := h.up (f + (k + 1)) hk
  unfold lastD at h2
  rw [if_neg (by omega), show f + (k + 1) - 1 = f + k by omega] at h2
  omega
theorem ValidP.last_lt {l : List Pst} (h : ValidP l) {f t : Nat} (hf : f < t) (ht : t ≤ l.length) : lastD l f < (pAt l (t - 1)).1 := by
 have := h.ahead (f := f) (k := t - 1 - f) (by omega)
 rwa [show f + (t - 1 - f) = t - 1 by omega] at this
theorem fit_of {w : World} {A : Option Addr} {n : Nat} {l : List Pst} (h : PostsSee w A n l) : FitP l := by
 intro x hx s hs
 obtain ⟨i, hi⟩ := List.getElem?_of_mem hx
 cases A with
 | none =>
  have h0 := h.nil rfl
  have h1 := h.len
  have : l = [] := List.eq_nil_of_length_eq_zero (by omega)
  subst this
  cases hx
 | some ad =>
  obtain ⟨_, _, B, c, _, _, h4⟩ := h.at_ ad rfl i x hi
  have := h4.vals s hs
  unfold fits64 at this
  omega
def putE (l : List Pst) : List UInt8 := if checkP l = 0 then putP l else []
def PutPOut (w : World) (l : List Pst) (e : Ending) (w' : World) : Prop :=
 ∃ v, e = .returned (.tuple #[v, .int .i64 (checkP l)]) ∧ w'.ownsRow w.heap.size 5 1 v (putE l).length ((putE l).map byteV) ∧ Below w.heap.size w w'
theorem block_next {l : List Pst} {i k t : Nat} (hik : i ≤ k) (hk4 : k % 4 = 0) (hkt : k < t) (ht : t = min l.length (k + 4)) :
  cat (linB l) i (k - i) ++ (headB l k t (cat (unitB l) k (t - k)) ++ cat (unitB l) k (t - k)) = cat (linB l) i (t - i) := by
 have h1 := cat_block l (i := k) (k := t - k) hk4 (by omega) (by omega)
 have h2 := cat_add (linB l) i (k - i) (t - k)
 rw [show k - i + (t - k) = t - i by omega, show i + (k - i) = k by omega, h1] at h2
 rw [h2]
 unfold blockB
 rw [← ht]
theorem group_next {l : List Pst} {i t : Nat} (hi : i % 16 = 0) (hit : i < t) (ht : t = min l.length (i + 16)) :
  cat (lin l) 0 i ++ (headB l i t (cat (linB l) i (t - i)) ++ cat (linB l) i (t - i)) = cat (lin l) 0 t := by
 have h1 := cat_group l (i := i) (k := t - i) hi (by omega) (by omega)
 have h2 := cat_add (lin l) 0 i (t - i)
 rw [show i + (t - i) = t by omega, Nat.zero_add, h1] at h2
 rw [h2]
 unfold groupB
 rw [← ht]
def GetPOut (w : World) (g : List Pst × Int) (e : Ending) (w' : World) : Prop := ∃ v, e = .returned (.tuple #[v, .int .i64 g.2]) ∧ PostsO w' w.heap.size v g.1 ∧ Below w.heap.size w w'
theorem spotInfo : (Tryz.prog.info? 64).map (fun i => (i.zero, i.size, i.bytes)) = some (some (.agg #[.int .i64 0, .int .i64 0]), 2, 16) := by kernel_rfl
theorem postInfo : (Tryz.prog.info? 62).map (fun i => (i.zero, i.size, i.bytes)) = some (some (.agg #[.int .i64 0, .slice none 0 0]), 2, 32) := by kernel_rfl
theorem getP_few (b : List UInt8) : (getP b).1.length ≤ 4096 := by
 rcases getP_err b with h | h
 ·have h1 := (getP_some h).1
  have h2 : ¬ 4096 < (getP b).1.length := fun h3 => by rw [check_many h3] at h1; omega
  omega
 ·rw [h]
  simp
theorem lPutRising_any (w : World) (A : Option Addr) (n c : Nat) (l : List Int) (hl : IntsIn w A n l) (hn : n ≤ 1099511627776) :
  Calls Tryz.prog 133 #[.slice A n c] w (PutROut w l) := by
 have HL := Lib.hid hl
 have HLN := Lib.hid hl.len
 have HLX := Lib.hid (fun x hx => (hl.2.2.1 x hx).2)
 clear hl
 go_enter Tryz.func133, Tryz.ntmps133
 go_wp2_with fail
 refine (lPut_any w n (by omega)).mono ?_
 rintro e w1 ⟨v1, rfl, hO, hB⟩
 have HO := Lib.hid hO
 have HB := Lib.hid hB
 clear hO hB
 go_wp2
 go_loopw [4, 5, 14] (fun v p i wr => ∃ (k : Nat) (la : Int), k ≤ n ∧ i = .int .i64 k ∧ p = .int .i64 la ∧ la = (l.take k).getLastD (-1) ∧ la ≤ 9223372036854775807 ∧ rises (-1) (l.take k) = true ∧ Below w.heap.size w wr ∧ wr.ownsRow w.heap.size 5 1 v (putUp l k).length ((putUp l k).map byteV)) (fun _ _ i _ => n - (intOf i).toNat)
 case atStart => exact ⟨0, -1, by omega, rfl, rfl, rfl, by omega, rfl, HB.out, by have := HO.out; rw [← HLN.out] at this; simpa [putUp, gaps, putGaps] using this⟩
 case round =>
  clear HO HB
  obtain ⟨k, la, hk, rfl, rfl, hla, hla2, hr, hB, hO⟩ := hrel
  have HR := Lib.hid hr
  have HO := Lib.hid hO
  have HB := Lib.hid hB
  have HLA := Lib.hid hla
  clear hr hO hB hla
  rcases Nat.lt_or_ge k n with hlt | hge
  ·have hlt' : (k : Int) < (n : Int) := by omega
   obtain ⟨Av, cv, hv⟩ := own_slice HO.out
   subst hv
   obtain ⟨ad, x, rfl, hx, hcx, hx1, hx2⟩ := (HL.out.below HB.out).at k hlt
   have HX := Lib.hid hx
   clear hx
   have hul := putUp_len (by rw [HLN.out]; exact hk) HR.out HLX.out (by rw [HLN.out]; omega)
   have hlast := rises_last _ _ HR.out
   rw [← HLA.out] at hlast
   by_cases hle : x ≤ la
   ·have hbad : rises (-1) l = false := by
     cases h : rises (-1) l with
     | false => rfl
     | true =>
      have h1 := rises_prefix (l.take (k + 1)) (l.drop (k + 1)) (-1) (by rw [List.take_append_drop]; exact h)
      rw [take_snoc HX.out, rises_snoc, ← HLA.out] at h1
      simp only [Bool.and_eq_true, decide_eq_true_eq] at h1
      omega
    have HBAD := Lib.hid hbad
    clear hbad hul
    go_wp2
    go_ret2
    exact ⟨_, _, rfl, HB.out, .inr ⟨HBAD.out, rfl, rfl⟩⟩
   ·have hs1 : IntKind.i64.wrap (la + 1) = la + 1 := IntWalk.i64_in _ (by omega)
    have hs2 : IntKind.i64.wrap (x - (la + 1)) = x - (la + 1) := IntWalk.i64_in _ (by omega)
    obtain ⟨g, hg⟩ : ∃ g : Nat, x - (la + 1) = (g : Int) := ⟨(x - (la + 1)).toNat, by omega⟩
    have hwr : IntKind.u64.wrap (x - (la + 1)) = (g : Int) := by rw [hg, IntKind.wrap_u64]; omega
    have hgm : g < 9223372036854775808 := by omega
    have hG : (x - (l.take k).getLastD (-1) - 1).toNat = g := by rw [← HLA.out]; omega
    have hLT : decide ((l.take k).getLastD (-1) < x) = true := by rw [← HLA.out]; simp; omega
    have HG := Lib.hid hG
    have HLT := Lib.hid hLT
    have hyl : (putUp l k).length ≤ 70368744177664 := by omega
    have hup : putUp l (k + 1) = putUp l k ++ putL g := by
     unfold putUp
     rw [take_snoc HX.out, gaps_snoc, putGaps_snoc, HG.out, List.append_assoc]
    have HUP := Lib.hid hup
    clear hG hLT hg hup hul
    go_wp2_with fail
    refine (lAdd_any wr w.heap.size HB.out.size (.slice Av (putUp l k).length cv) (putUp l k) hyl HO.out g (by omega)).mono ?_
    rintro e w2 ⟨v2, rfl, hO2, hB2⟩
    have HO2 := Lib.hid hO2
    have HB2 := Lib.hid (HB.out.trans hB2)
    clear hO2 hB2
    go_wp2
    go_roundw
    case rel =>
     refine ⟨k + 1, x, by omega, by go_num, rfl, ?_, by omega, ?_, HB2.out, ?_⟩
     ·rw [take_snoc HX.out, List.getLastD_concat]
     ·rw [take_snoc HX.out, rises_snoc, HR.out, HLT.out]
      rfl
     ·rw [HUP.out]
      exact HO2.out
    case measure => simp [intOf]; omega
  ·obtain rfl : k = n := by omega
   have hlz : ¬ ((k : Int) < (k : Int)) := by omega
   have htk : l.take k = l := List.take_of_length_le (by rw [HLN.out]; exact Nat.le_refl _)
   go_wp2
   go_ret2
   refine ⟨_, _, rfl, HB.out, .inl ⟨?_, rfl, ?_⟩⟩
   ·rw [← htk]; exact HR.out
   ·have := HO.out
    unfold putUp at this
    rw [htk] at this
    exact this
theorem below_set {a w : World} {B : Nat} (h : Below B a w) {p : Addr} (hp : B ≤ p.block) (u : Value) : Below B a (w.setCell p u) :=
 ⟨h.os, h.tape, h.output, by rw [size_setCell']; exact h.size, fun k hk => (Below.heap_setCell _ _ _ k (by omega)).trans (h.block k hk)⟩
def lastS (s : List (Int × Int)) (k : Nat) : Int × Int := if k = 0 then (-1, -1) else s.getD (k - 1) (0, 0)
theorem spAt_last (s : List (Int × Int)) (k : Nat) : spAt s k = (decide ((lastS s k).1 < (s.getD k (0, 0)).1) && decide ((lastS s k).2 < (s.getD k (0, 0)).2)) := by
 unfold spAt lastS
 split <;> rfl
theorem lastS_next {s : List (Int × Int)} {k : Nat} {x : Int × Int} (h : s[k]? = some x) : lastS s (k + 1) = x := by
 unfold lastS
 rw [if_neg (by omega), Nat.add_sub_cancel, List.getD_eq_getElem?_getD, h]
 rfl
theorem gRise_any (w : World) (A : Option Addr) (n c : Nat) (s : List (Int × Int)) (hs : PairsIn w A n s) (hn : n ≤ 1099511627776) :
  Calls Tryz.prog 132 #[.slice A n c] w fun e w' => e = .returned (.bool (rises (-1) (poss s) && rises (-1) (atss s))) ∧ Below w.heap.size w w' := by
 have HS := Lib.hid hs
 have HLEN := Lib.hid hs.len
 obtain ⟨R, hR⟩ : ∃ R, R = (rises (-1) (poss s) && rises (-1) (atss s)) := ⟨_, rfl⟩
 rw [← hR]
 have HR : Hid (R = true ↔ ∀ k, k < s.length → spAt s k = true) := Lib.hid (by rw [hR]; exact spots_rise)
 clear hs hR
 go_enter Tryz.func132, Tryz.ntmps132
 go_wp2
 go_loopw [9] (fun i wr => ∃ k : Nat, k ≤ n ∧ i = .int .i64 k ∧ (∀ j, j < k → spAt s j = true) ∧ Below w.heap.size w wr ∧ Blk wr w.heap.size 64 #[.int .i64 (lastS s k).1, .int .i64 (lastS s k).2]) (fun i _ => n - (intOf i).toNat)
 case atStart => exact ⟨0, by omega, rfl, fun j hj => by omega, (Below.refl _ _).alloc (Nat.le_refl _) _, Blk.new _ _ _⟩
 case round =>
  obtain ⟨k, hk, rfl, hsp, hB, hblk⟩ := hrel
  have HSP := Lib.hid hsp
  have HB := Lib.hid hB
  have HBK := Lib.hid hblk
  obtain ⟨l1, hl1⟩ : ∃ x, x = (lastS s k).1 := ⟨_, rfl⟩
  obtain ⟨l2, hl2⟩ : ∃ x, x = (lastS s k).2 := ⟨_, rfl⟩
  rw [← hl1, ← hl2] at HBK
  have c0 := HBK.out.cell 0
  have c1 := HBK.out.cell 1
  have z0 := HBK.out.frozen 0
  have z1 := HBK.out.frozen 1
  simp at c0 c1
  have hbs := HB.out.size
  have hblt := HBK.out.lt
  clear hsp hB hblk
  rcases Nat.lt_or_ge k n with hlt | hge
  ·have hlt' : (k : Int) < (n : Int) := by omega
   have p0 : (0 : Int) ≤ (k : Int) := by omega
   have hw5 : IntKind.i64.wrap ((k : Int) + 1) = (k : Int) + 1 := IntWalk.i64_in _ (by omega)
   obtain ⟨pa, x, rfl, hx, a0, a1, -, -⟩ := (HS.out.below HB.out).at k hlt
   have hsx := spAt_last s k
   have hnl := lastS_next hx
   rw [← hl1, ← hl2, List.getD_eq_getElem?_getD, hx, Option.getD_some] at hsx
   obtain ⟨x1, x2⟩ := x
   simp only at a0 a1 hsx
   have HNL := Lib.hid hnl
   have HSX := Lib.hid hsx
   clear hx hsx hnl hl1 hl2
   by_cases q1 : x1 ≤ l1
   ·have d1 : decide (x1 ≤ l1) = true := decide_eq_true q1
    obtain rfl : R = false := by
     rw [Bool.eq_false_iff]
     intro e
     have h1 := HR.out.1 e k (by rw [HLEN.out]; exact hlt)
     rw [HSX.out, Bool.and_eq_true, decide_eq_true_eq, decide_eq_true_eq] at h1
     omega
    go_wp2
    go_ret
    exact ⟨rfl, HB.out.alloc HB.out.size _⟩
   ·have d1 : decide (x1 ≤ l1) = false := decide_eq_false q1
    by_cases q2 : x2 ≤ l2
    ·have d2 : decide (x2 ≤ l2) = true := decide_eq_true q2
     obtain rfl : R = false := by
      rw [Bool.eq_false_iff]
      intro e
      have h1 := HR.out.1 e k (by rw [HLEN.out]; exact hlt)
      rw [HSX.out, Bool.and_eq_true, decide_eq_true_eq, decide_eq_true_eq] at h1
      omega
     go_wp2
     go_ret
     exact ⟨rfl, HB.out.alloc HB.out.size _⟩
    ·have d2 : decide (x2 ≤ l2) = false := decide_eq_false q2
     have hgood : spAt s k = true := by
      rw [HSX.out, Bool.and_eq_true, decide_eq_true_eq, decide_eq_true_eq]
      omega
     have HG := Lib.hid hgood
     clear hgood
     go_wp2
     go_roundw
     case rel =>
      refine ⟨k + 1, by omega, by go_num, fun j hj => ?_, ?_, ?_⟩
      ·rcases Nat.lt_or_ge j k with h1 | h1
       ·exact HSP.out j h1
       ·obtain rfl : j = k := by omega
        exact HG.out
      ·exact (below_set (below_set HB.out (Nat.le_refl _) _) (Nat.le_refl _) _).alloc (by rw [size_setCell', size_setCell']; exact HB.out.size) _
      ·rw [HNL.out]
       have h1 := ((HBK.out.set_ 0 (.int .i64 x1)).set_ 1 (.int .i64 x2)).alloc (.cells #[.int .i64 x1, .int .i64 x2] 64)
       simpa using h1
     case measure => simp [intOf]; omega
  ·obtain rfl : k = n := by omega
   have hlz : ¬ ((k : Int) < (k : Int)) := by omega
   obtain rfl : R = true := HR.out.2 fun j hj => HSP.out j (by rw [HLEN.out] at hj; exact hj)
   go_wp2
   go_ret
   exact ⟨rfl, HB.out⟩
theorem gMany1_any (w : World) (d : Int) (B : Option Addr) (k c : Nat) : Calls Tryz.prog 131 #[.agg #[.int .i64 d, .slice B k c]] w fun e w' => e = .returned (.bool (decide (4096 < k))) ∧ Below w.heap.size w w' := by
 have hd : decide ((4096 : Int) < (k : Int)) = decide (4096 < k) := decide_eq_decide.2 (by omega)
 go_enter Tryz.func131, Tryz.ntmps131
 go_wp2
 go_ret
 exact ⟨by rw [← hd]; rfl, (Below.refl _ _).alloc (Nat.le_refl _) _⟩
theorem gIdx_any (w : World) (A : Option Addr) (n c : Nat) (l : List Pst) (h : PostsSee w A n l) (hn : n ≤ 4096) :
  Calls Tryz.prog 172 #[.slice A n c, .func (.func 131) #[] #[]] w fun e w' => ∃ r : Int, e = .returned (.int .i64 r) ∧ decide (0 ≤ r) = manyUp l n ∧ Below w.heap.size w w' := by
 have HP := Lib.hid h
 have HLEN := Lib.hid h.len
 obtain ⟨R, hR⟩ : ∃ R, R = manyUp l n := ⟨_, rfl⟩
 rw [← hR]
 have HR := Lib.hid hR
 clear h hR
 go_enter Tryz.func172, Tryz.ntmps172
 go_wp2
 go_loopw [8] (fun i wr => ∃ k : Nat, k ≤ n ∧ i = .int .i64 k ∧ manyUp l k = false ∧ Below w.heap.size w wr) (fun i _ => n - (intOf i).toNat)
 case atStart => exact ⟨0, by omega, rfl, rfl, Below.refl _ _⟩
 case round =>
  obtain ⟨k, hk, rfl, hmu, hB⟩ := hrel
  have HMU := Lib.hid hmu
  have HB := Lib.hid hB
  clear hmu hB
  rcases Nat.lt_or_ge k n with hlt | hge
  ·have hlt' : (k : Int) < (n : Int) := by omega
   have p0 : (0 : Int) ≤ (k : Int) := by omega
   have hw5 : IntKind.i64.wrap ((k : Int) + 1) = (k : Int) + 1 := IntWalk.i64_in _ (by omega)
   obtain ⟨pa, x, SA, da, rfl, hx, -, a0, a1, -, -⟩ := (HP.out.below HB.out).at k hlt
   have HPX := Lib.hid (pAt_eq hx)
   obtain ⟨x1, x2⟩ := x
   simp only at a0 a1
   obtain ⟨m, hm⟩ : ∃ m, m = x2.length := ⟨_, rfl⟩
   rw [← hm] at a1
   have HM := Lib.hid hm
   clear hx hm
   go_wp2_with fail
   refine (gMany1_any wr x1 SA m da).mono ?_
   rintro e w2 ⟨rfl, hb2⟩
   have HB2 := Lib.hid (below_then HB.out hb2 HB.out.size)
   clear hb2
   by_cases hsp : 4096 < m
   ·have d1 : decide (4096 < m) = true := decide_eq_true hsp
    have hfin : R = true := by
     rw [HR.out]
     cases hm : manyUp l n with
     | true => rfl
     | false => have h1 := manyUp_iff.1 hm k hlt; rw [HPX.out, ← HM.out] at h1; omega
    rw [d1]
    go_wp2
    go_ret
    exact ⟨_, rfl, by rw [hfin]; exact decide_eq_true p0, HB2.out⟩
   ·have d1 : decide (4096 < m) = false := decide_eq_false hsp
    have hnx : manyUp l (k + 1) = false := by rw [manyUp, HMU.out, HPX.out, ← HM.out, d1]; rfl
    have HNX := Lib.hid hnx
    rw [d1]
    clear hnx d1
    go_wp2
    go_roundw
    case rel => exact ⟨k + 1, by omega, by go_num, HNX.out, HB2.out⟩
    case measure => simp [intOf]; omega
  ·obtain rfl : k = n := by omega
   have hlz : ¬ ((k : Int) < (k : Int)) := by omega
   obtain rfl : R = false := by rw [HR.out]; exact HMU.out
   go_wp2
   go_ret
   exact ⟨_, rfl, by first | rfl | simp, HB.out⟩
theorem gCont_any (w : World) (A : Option Addr) (n c : Nat) (l : List Pst) (h : PostsSee w A n l) (hn : n ≤ 4096) :
  Calls Tryz.prog 130 #[.slice A n c, .func (.func 131) #[] #[]] w fun e w' => e = .returned (.bool (manyUp l n)) ∧ Below w.heap.size w w' := by
 have HC := Lib.hid (gIdx_any w A n c l h hn)
 clear h
 go_enter Tryz.func130, Tryz.ntmps130
 go_wp2_with fail
 refine HC.out.mono ?_
 rintro e w2 ⟨r, rfl, hr, hb⟩
 have HB := Lib.hid hb
 have HR := Lib.hid hr
 clear hb hr
 go_wp2
 go_ret
 exact ⟨congrArg (fun x => Ending.returned (.bool x)) HR.out, HB.out⟩
theorem gTooMany_any (w : World) (A : Option Addr) (n c : Nat) (l : List Pst) (h : PostsSee w A n l) (hn : n ≤ 1000000) :
  Calls Tryz.prog 80 #[.slice A n c] w fun e w' => e = .returned (.bool (decide (checkP l = 2))) ∧ Below w.heap.size w w' := by
 have hlen := h.len
 by_cases hm : 4096 < n
 ·have d1 : decide ((4096 : Int) < (n : Int)) = true := decide_eq_true (by omega)
  have hr : checkP l = 2 := check_many (by omega)
  rw [hr]
  clear h hlen hr
  go_enter Tryz.func80, Tryz.ntmps80
  go_wp2
  go_ret
  exact ⟨rfl, Below.refl _ _⟩
 ·have d1 : decide ((4096 : Int) < (n : Int)) = false := decide_eq_false (by omega)
  have HC := Lib.hid (gCont_any w A n c l h (by omega))
  have hr : decide (checkP l = 2) = manyUp l n := by
   rw [← hlen]
   unfold checkP
   rw [if_neg (by omega)]
   cases manyUp l l.length with
   | true => rfl
   | false => cases okUp l l.length <;> rfl
  rw [hr]
  clear h hlen hr
  go_enter Tryz.func80, Tryz.ntmps80
  go_wp2_with fail
  refine HC.out.mono ?_
  rintro e w2 ⟨rfl, hb⟩
  have HB := Lib.hid hb
  clear hb
  go_wp2
  go_ret
  exact ⟨rfl, HB.out⟩
theorem gValid_any (w : World) (A : Option Addr) (n c : Nat) (l : List Pst) (h : PostsSee w A n l) (hn : n ≤ 4096) (hs : ∀ x ∈ l, x.2.length ≤ 4096) :
  Calls Tryz.prog 81 #[.slice A n c] w fun e w' => e = .returned (.bool (okUp l n)) ∧ Below w.heap.size w w' := by
 have HP := Lib.hid h
 have HLEN := Lib.hid h.len
 have HSL := Lib.hid hs
 obtain ⟨R, hR⟩ : ∃ R, R = okUp l n := ⟨_, rfl⟩
 rw [← hR]
 have HR : Hid (R = true ↔ ∀ i, i < n → okAt l i = true) := Lib.hid (by rw [hR]; exact okUp_iff)
 clear h hR hs
 go_enter Tryz.func81, Tryz.ntmps81
 go_wp2
 go_loopw [3, 8] (fun v i wr => ∃ (k : Nat) (la : Int), k ≤ n ∧ i = .int .i64 k ∧ v = .int .i64 la ∧ la = lastD l k ∧ -1 ≤ la ∧ (∀ j, j < k → okAt l j = true) ∧ Below w.heap.size w wr) (fun _ i _ => n - (intOf i).toNat)
 case atStart => exact ⟨0, -1, by omega, rfl, rfl, rfl, by omega, fun j hj => by omega, Below.refl _ _⟩
 case round =>
  obtain ⟨k, la, hk, rfl, rfl, hla, hla1, hok, hB⟩ := hrel
  have HOK := Lib.hid hok
  have HLA := Lib.hid hla
  have HB := Lib.hid hB
  clear hok hla hB
  rcases Nat.lt_or_ge k n with hlt | hge
  ·have hlt' : (k : Int) < (n : Int) := by omega
   have p0 : (0 : Int) ≤ (k : Int) := by omega
   have hw5 : IntKind.i64.wrap ((k : Int) + 1) = (k : Int) + 1 := IntWalk.i64_in _ (by omega)
   obtain ⟨pa, x, SA, da, rfl, hx, -, a0, a1, -, sa⟩ := (HP.out.below HB.out).at k hlt
   have hpx := pAt_eq hx
   have hxl := HSL.out x (List.mem_of_getElem? hx)
   obtain ⟨x1, x2⟩ := x
   simp only at a0 a1 sa hxl
   have hbad : okAt l k = false → R = false := fun e => by
    rw [Bool.eq_false_iff]
    intro h1
    rw [HR.out.1 h1 k hlt] at e
    cases e
   have hat : okAt l k = true ↔ la < x1 ∧ x1 ≤ 4294967296 ∧ 0 < x2.length ∧ (rises (-1) (poss x2) && rises (-1) (atss x2)) = true := by
    rw [okAt_iff, hpx, ← HLA.out, Bool.and_eq_true]
    simp only
    constructor
    ·rintro ⟨h1, h2, h3, h4, h5, h6⟩; exact ⟨h3, h2, h4, h5, h6⟩
    ·rintro ⟨h1, h2, h3, h4, h5⟩; exact ⟨by omega, h2, h1, h3, h4, h5⟩
   have hnl : lastD l (k + 1) = x1 := by unfold lastD; rw [if_neg (by omega), Nat.add_sub_cancel, hpx]
   have HAT := Lib.hid hat
   have HNL := Lib.hid hnl
   have HBAD := Lib.hid hbad
   have hb1 : Below wr.heap.size wr (wr.alloc (.cells #[.int .i64 x1, .slice SA x2.length da] 62)) := (Below.refl _ wr).alloc (Nat.le_refl _) _
   have HSA := Lib.hid (sa.below hb1)
   have HB1 := Lib.hid (below_then HB.out hb1 HB.out.size)
   clear hx hpx sa hbad hat hnl hb1
   by_cases q1 : x1 ≤ la
   ·have d1 : decide (x1 ≤ la) = true := decide_eq_true q1
    obtain rfl : R = false := HBAD.out (by rw [Bool.eq_false_iff]; intro e; have := (HAT.out.1 e).1; omega)
    go_wp2
    go_ret
    exact ⟨rfl, HB1.out⟩
   ·have d1 : decide (x1 ≤ la) = false := decide_eq_false q1
    by_cases q2 : 4294967296 < x1
    ·have d2 : decide ((4294967296 : Int) < x1) = true := decide_eq_true q2
     obtain rfl : R = false := HBAD.out (by rw [Bool.eq_false_iff]; intro e; have := (HAT.out.1 e).2.1; omega)
     go_wp2
     go_ret
     exact ⟨rfl, HB1.out⟩
    ·have d2 : decide ((4294967296 : Int) < x1) = false := decide_eq_false q2
     by_cases q3 : x2.length = 0
     ·have d3 : ((x2.length : Int) == 0) = true := by rw [q3]; rfl
      obtain rfl : R = false := HBAD.out (by rw [Bool.eq_false_iff]; intro e; have := (HAT.out.1 e).2.2.1; omega)
      have Q3 := Lib.hid q3
      clear q3
      go_wp2
      go_ret
      exact ⟨rfl, HB1.out⟩
     ·have d3 : ((x2.length : Int) == 0) = false := beq_eq_false_iff_ne.2 (fun e => q3 (by omega))
      have Q3 := Lib.hid q3
      clear q3
      go_wp2_with fail
      refine (gRise_any _ SA x2.length da x2 HSA.out (by omega)).mono ?_
      rintro e w2 ⟨rfl, hb2⟩
      have t0 : w2.cell? ⟨wr.heap.size, 0, none⟩ = some (.int .i64 x1) := below_cells hb2 ((Blk.new wr 62 #[.int .i64 x1, .slice SA x2.length da]).cell 0)
      have HB2 := Lib.hid (below_then HB1.out hb2 HB1.out.size)
      clear hb2
      obtain ⟨g, hg⟩ : ∃ g, g = (rises (-1) (poss x2) && rises (-1) (atss x2)) := ⟨_, rfl⟩
      rw [← hg]
      have HG := Lib.hid hg
      clear hg
      cases g with
      | false =>
       obtain rfl : R = false := HBAD.out (by rw [Bool.eq_false_iff]; intro e; have := (HAT.out.1 e).2.2.2; rw [← HG.out] at this; cases this)
       go_wp2
       go_ret
       exact ⟨rfl, HB2.out⟩
      | true =>
       have hgood : okAt l k = true := HAT.out.2 ⟨by omega, by omega, by have := Q3.out; omega, HG.out.symm⟩
       have HGD := Lib.hid hgood
       clear hgood
       go_wp2
       go_roundw
       case rel =>
        exact ⟨k + 1, x1, by omega, by go_num, rfl, HNL.out.symm, by omega, fun j hj => by
         rcases Nat.lt_or_ge j k with h1 | h1
         ·exact HOK.out j h1
         ·obtain rfl : j = k := by omega
          exact HGD.out, HB2.out⟩
       case measure => simp [intOf]; omega
  ·obtain rfl : k = n := by omega
   have hlz : ¬ ((k : Int) < (k : Int)) := by omega
   obtain rfl : R = true := HR.out.2 HOK.out
   go_wp2
   go_ret
   exact ⟨rfl, HB.out⟩
theorem gGap_any (w : World) (A : Option Addr) (n c : Nat) (l : List Pst) (h : PostsSee w A n l) (hn : n ≤ 4096) (hV : ValidP l) (f t : Nat) (hft : f < t) (ht : t ≤ n) (hup : lastD l f < (pAt l (t - 1)).1) :
  Calls Tryz.prog 83 #[.slice A n c, .int .i64 f, .int .i64 t] w fun e w' => ∃ v, e = .returned v ∧ w'.ownsRow w.heap.size 5 1 v (putL ((pAt l (t - 1)).1 - lastD l f - 1).toNat).length ((putL ((pAt l (t - 1)).1 - lastD l f - 1).toNat).map byteV) ∧ Below w.heap.size w w' := by
 have hlen := h.len
 obtain ⟨T, hT⟩ : ∃ T, t = T + 1 := ⟨t - 1, by omega⟩
 obtain ⟨pa, x, SA, da, rfl, hx, -, a0, -, -, -⟩ := h.at T (by omega)
 have hpx : pAt l (t - 1) = x := by rw [hT, Nat.add_sub_cancel]; exact pAt_eq hx
 have q1 := hV.docs _ (pAt_mem (show t - 1 < l.length by omega))
 have q2 := hV.last (show f ≤ l.length by omega)
 rw [hpx] at hup q1 ⊢
 obtain ⟨x1, x2⟩ := x
 simp only at a0 hup q1
 have hwt : IntKind.i64.wrap ((t : Int) - 1) = (T : Int) := by rw [show (t : Int) - 1 = (T : Int) by omega]; exact IntWalk.i64_in _ (by omega)
 have p0 : (0 : Int) ≤ (T : Int) := by omega
 have p1 : (T : Int) < (n : Int) := by omega
 obtain ⟨b, hb⟩ : ∃ b, b = lastD l f := ⟨_, rfl⟩
 rw [← hb] at hup q2 ⊢
 obtain ⟨D, hD⟩ : ∃ D, D = (x1 - b - 1).toNat := ⟨_, rfl⟩
 have hs1 : IntKind.i64.wrap (x1 - b) = x1 - b := IntWalk.i64_in _ (by omega)
 have hs2 : IntKind.i64.wrap (x1 - b - 1) = (D : Int) := by rw [show x1 - b - 1 = (D : Int) by omega]; exact IntWalk.i64_in _ (by omega)
 have hs3 : IntKind.u64.wrap (D : Int) = (D : Int) := IntWalk.u64_in _ (by omega)
 have hD64 : D < 18446744073709551616 := by omega
 rw [← hD]
 clear hpx hT hx hV
 by_cases hf0 : f = 0
 ·subst hf0
  obtain rfl : b = -1 := by rw [hb]; rfl
  obtain rfl : x1 = (D : Int) := by omega
  have hs4 : IntKind.i64.wrap ((D : Int) + 1) = (D : Int) + 1 := IntWalk.i64_in _ (by omega)
  have hs5 : IntKind.i64.wrap (D : Int) = (D : Int) := IntWalk.i64_in _ (by omega)
  clear hb h hD hs1 hs2
  go_enter Tryz.func83, Tryz.ntmps83
  go_wp2_with fail
  refine (lPut_any w D hD64).mono ?_
  rintro e w2 ⟨v, rfl, ho, hb⟩
  have HO := Lib.hid ho
  have HB := Lib.hid hb
  clear ho hb
  go_wp2
  go_ret
  exact ⟨v, rfl, HO.out, HB.out⟩
 ·obtain ⟨F, hF⟩ : ∃ F, f = F + 1 := ⟨f - 1, by omega⟩
  obtain ⟨pb, y, SB, db, hpb, hy, -, b0, -, -, -⟩ := h.at F (by omega)
  obtain rfl := Option.some.inj hpb
  obtain rfl : b = y.1 := by rw [hb]; unfold lastD; rw [if_neg hf0, hF, Nat.add_sub_cancel, pAt_eq hy]
  obtain ⟨y1, y2⟩ := y
  simp only at b0 hup q2 hs1 hs2
  have hwf : IntKind.i64.wrap ((f : Int) - 1) = (F : Int) := by rw [show (f : Int) - 1 = (F : Int) by omega]; exact IntWalk.i64_in _ (by omega)
  have p2 : (0 : Int) ≤ (F : Int) := by omega
  have p3 : (F : Int) < (n : Int) := by omega
  have p4 : (0 : Int) < (f : Int) := by omega
  have d1 : decide ((0 : Int) < (f : Int)) = true := decide_eq_true p4
  clear hb h hF hy hpb hf0 hD
  go_enter Tryz.func83, Tryz.ntmps83
  go_wp2_with fail
  refine (lPut_any w D hD64).mono ?_
  rintro e w2 ⟨v, rfl, ho, hb⟩
  have HO := Lib.hid ho
  have HB := Lib.hid hb
  clear ho hb
  go_wp2
  go_ret
  exact ⟨v, rfl, HO.out, HB.out⟩
theorem apart1 {A A' B : Option Nat} {s : Nat} (h : ∀ g, A = some g → B ≠ some g) (hl : A' = A ∨ A' = some s) (hB : ∀ g, B = some g → g < s) : ∀ g, A' = some g → B ≠ some g := by
 rcases hl with rfl | rfl
 ·exact h
 ·intro g e1 e2
  have := hB g e2
  have := Option.some.inj e1
  omega
theorem apart2 {A B B' : Option Nat} {s : Nat} (h : ∀ g, A = some g → B ≠ some g) (hl : B' = B ∨ B' = some s) (hA : ∀ g, A = some g → g < s) : ∀ g, A = some g → B' ≠ some g := by
 rcases hl with rfl | rfl
 ·exact h
 ·intro g e1 e2
  have := hA g e1
  have := Option.some.inj e2
  omega
theorem one_int_src2 (w : World) (o : Obj) (e : TypeId) (x : Int) : Src ((w.alloc o).alloc (.cells #[.int .i64 x] e)) (some ⟨w.heap.size + 1, 0, none⟩) 1 ([x].map i64V) := by
 have := one_int_src (w.alloc o) e x
 rwa [World.size_alloc] at this
theorem gSpots_any (w : World) (A : Option Addr) (n c : Nat) (s : List (Int × Int)) (hs : PairsIn w A n s) (hn : n ≤ 4096) (hp : rises (-1) (poss s) = true) (ha : rises (-1) (atss s) = true) :
  Calls Tryz.prog 84 #[.slice A n c] w fun e w' => ∃ v, e = .returned v ∧ w'.ownsRow w.heap.size 5 1 v (putR (poss s) ++ putR (atss s)).length ((putR (poss s) ++ putR (atss s)).map byteV) ∧ Below w.heap.size w w' := by
 obtain ⟨i0, hi, hz0, hz1, hz2⟩ := info_parts int64Info
 have HS := Lib.hid hs
 have HLEN := Lib.hid hs.len
 have HV := Lib.hid hs.vals
 obtain ⟨P, hP⟩ : ∃ P, P = poss s := ⟨_, rfl⟩
 obtain ⟨Q, hQ⟩ : ∃ Q, Q = atss s := ⟨_, rfl⟩
 rw [← hP] at hp
 rw [← hQ] at ha
 rw [← hP, ← hQ]
 have HPE := Lib.hid hP
 have HQE := Lib.hid hQ
 have HRP := Lib.hid hp
 have HRQ := Lib.hid ha
 have hPl : P.length = n := by rw [hP, (poss_len s).1]; exact hs.len
 have hQl : Q.length = n := by rw [hQ, (poss_len s).2]; exact hs.len
 have HPL := Lib.hid hPl
 have HQL := Lib.hid hQl
 clear hs hP hQ hp ha hPl hQl
 go_enter Tryz.func84, Tryz.ntmps84
 go_wp2
 go_loopw [3, 4, 13] (fun v u i wr => ∃ k : Nat, k ≤ n ∧ i = .int .i64 k ∧ wr.ownsRow w.heap.size 2 1 v k ((P.take k).map i64V) ∧ wr.ownsRow w.heap.size 2 1 u k ((Q.take k).map i64V) ∧ (∀ g, v.ownBlock = some g → u.ownBlock ≠ some g) ∧ Below w.heap.size w wr) (fun _ _ i _ => n - (intOf i).toNat)
 case atStart => exact ⟨0, by omega, rfl, ⟨rfl, .inl ⟨rfl, rfl⟩⟩, ⟨rfl, .inl ⟨rfl, rfl⟩⟩, (fun g e => by cases e), Below.refl _ _⟩
 case round =>
  obtain ⟨k, hk, rfl, hO, hU, hne, hB⟩ := hrel
  have HO := Lib.hid hO
  have HU := Lib.hid hU
  have HNE := Lib.hid hne
  have HB := Lib.hid hB
  clear hO hU hne hB
  obtain ⟨Av, cv, hv⟩ := own_slice HO.out
  obtain ⟨Au, cu, hu⟩ := own_slice HU.out
  subst hv hu
  rcases Nat.lt_or_ge k n with hlt | hge
  ·have hlt' : (k : Int) < (n : Int) := by omega
   have p0 : (0 : Int) ≤ (k : Int) := by omega
   have hw5 : IntKind.i64.wrap ((k : Int) + 1) = (k : Int) + 1 := IntWalk.i64_in _ (by omega)
   obtain ⟨pa, x, rfl, hx, a0, a1, -, -⟩ := (HS.out.below HB.out).at k hlt
   obtain ⟨x1, x2⟩ := x
   simp only at a0 a1
   have HPT : Hid (P.take (k + 1) = P.take k ++ [x1]) := Lib.hid (by rw [List.take_add_one, HPE.out]; simp [poss, hx])
   have HQT : Hid (Q.take (k + 1) = Q.take k ++ [x2]) := Lib.hid (by rw [List.take_add_one, HQE.out]; simp [atss, hx])
   clear hx
   have hsz := HB.out.size
   go_wp2_with ((at_builtin; refine wpList_append_src _ rfl (.tmp 17) (.tmp 20) 196 rfl w.heap.size 2 i0 (.int .i64 0) 8 Tryz.underlying196 hi hz0 hz1 hz2 rfl _ k _ rfl (World.ownsRow.alloc (World.ownsRow.alloc HO.out _) _) _ 1 1 _ rfl (one_int_src2 wr _ 2 x1) (i64V_one [x1]) (by unfold maxLen; omega) (by omega) (by simp; omega) ?_; intro v3 w3 hown hgrow hloc; obtain ⟨A3, c3, hv3⟩ := own_slice hown; subst hv3; have HO3 := Lib.hid hown; have HU3 := Lib.hid (ownsRow_block (World.ownsRow.alloc (World.ownsRow.alloc HU.out (.cells #[.int .i64 x1, .int .i64 x2] 64)) (.cells #[.int .i64 x1] 2)) (w' := w3) fun g hg => hgrow.block g (by have := (HU.out.lt g hg).2; simp; omega) (fun e => HNE.out g e.symm hg)); have HB3 := Lib.hid (((HB.out.alloc HB.out.size (.cells #[.int .i64 x1, .int .i64 x2] 64)).alloc (by simp; omega) (.cells #[.int .i64 x1] 2)).grown hgrow (by simp; omega) (fun g hg => (HO.out.lt g hg).1)); have t1 : w3.cell? ⟨wr.heap.size, 1, none⟩ = some (.int .i64 x2) := (((Blk.new wr 64 #[.int .i64 x1, .int .i64 x2]).alloc (.cells #[.int .i64 x1] 2)).grown hgrow (fun e => by have := (HO.out.lt _ e.symm).2; omega)).cell 1; have HNE3 : Hid (∀ g, (Value.slice A3 (k + 1) c3).ownBlock = some g → (Value.slice Au k cu).ownBlock ≠ some g) := Lib.hid (apart1 HNE.out hloc (fun g e => by have := (HU.out.lt g e).2; simp; omega)); have hsz3 := HB3.out.size; clear hown hgrow hloc; go_wp2_with (at_builtin; refine wpList_append_src _ rfl (.tmp 22) (.tmp 25) 196 rfl w.heap.size 2 i0 (.int .i64 0) 8 Tryz.underlying196 hi hz0 hz1 hz2 rfl _ k _ rfl (World.ownsRow.alloc HU3.out _) _ 1 1 _ rfl (one_int_src _ 2 x2) (i64V_one [x2]) (by unfold maxLen; omega) (by omega) (by simp; omega) ?_; intro v4 w4 hown hgrow hloc; obtain ⟨A4, c4, hv4⟩ := own_slice hown; subst hv4; have HU4 := Lib.hid hown; have HO4 := Lib.hid (ownsRow_block (World.ownsRow.alloc HO3.out (.cells #[.int .i64 x2] 2)) (w' := w4) fun g hg => hgrow.block g (by have := (HO3.out.lt g hg).2; simp; omega) (fun e => HNE3.out g hg e.symm)); have HB4 := Lib.hid ((HB3.out.alloc HB3.out.size (.cells #[.int .i64 x2] 2)).grown hgrow (by simp; omega) (fun g hg => (HU3.out.lt g hg).1)); have HNE4 : Hid (∀ g, (Value.slice A3 (k + 1) c3).ownBlock = some g → (Value.slice A4 (k + 1) c4).ownBlock ≠ some g) := Lib.hid (apart2 HNE3.out hloc (fun g e => by have := (HO3.out.lt g e).2; simp; omega)); clear hown hgrow hloc)))
   go_roundw
   case rel =>
    refine ⟨k + 1, by omega, by go_num, ?_, ?_, HNE4.out, HB4.out⟩
    ·rw [HPT.out, List.map_append]; exact HO4.out
    ·rw [HQT.out, List.map_append]; exact HU4.out
   case measure => simp [intOf]; omega
  ·obtain rfl : k = n := by omega
   have hlz : ¬ ((k : Int) < (k : Int)) := by omega
   have t1 : P.take k = P := List.take_of_length_le (by rw [HPL.out]; exact Nat.le_refl _)
   have t2 : Q.take k = Q := List.take_of_length_le (by rw [HQL.out]; exact Nat.le_refl _)
   rw [t1] at HO
   rw [t2] at HU
   have HOI := Lib.hid (IntsIn.own HO.out (by unfold maxLen; omega) (fun x hx => by
    rw [HPE.out] at hx
    obtain ⟨y, hy, rfl⟩ := List.mem_map.1 hx
    have := (HV.out y hy).1
    unfold fits64 at this
    exact this))
   have HUI := Lib.hid (IntsIn.own HU.out (by unfold maxLen; omega) (fun x hx => by
    rw [HQE.out] at hx
    obtain ⟨y, hy, rfl⟩ := List.mem_map.1 hx
    have := (HV.out y hy).2
    unfold fits64 at this
    exact this))
   have hpl := putR_len (by rw [HPL.out]; omega) HRP.out (fun x hx => by
    rw [HPE.out] at hx
    obtain ⟨y, hy, rfl⟩ := List.mem_map.1 hx
    have := (HV.out y hy).1
    unfold fits64 at this
    exact this.2)
   have hql := putR_len (by rw [HQL.out]; omega) HRQ.out (fun x hx => by
    rw [HQE.out] at hx
    obtain ⟨y, hy, rfl⟩ := List.mem_map.1 hx
    have := (HV.out y hy).2
    unfold fits64 at this
    exact this.2)
   have hpos := putL_pos P.length
   have hp0 : 0 < (putR P).length := by unfold putR; rw [List.length_append]; omega
   clear t1 t2 hpos
   go_wp2_with fail
   refine (lPutRising_any wr Av k cv P HOI.out (by omega)).mono ?_
   rintro e w2 ⟨v2, n2, rfl, hb2, ho2⟩
   obtain ⟨rfl, hq2⟩ : n2 = 0 ∧ w2.ownsRow wr.heap.size 5 1 v2 (putR P).length ((putR P).map byteV) := by
    rcases ho2 with ⟨_, h2, h3⟩ | ⟨h1, _⟩
    ·exact ⟨h2, h3⟩
    ·rw [HRP.out] at h1; cases h1
   obtain ⟨A2, c2, rfl, hc2⟩ := own_cap hq2
   have HB2 := Lib.hid (below_then HB.out hb2 HB.out.size)
   have HX2 := Lib.hid (BytesIn.own hq2 (by unfold maxLen; omega))
   have HUI2 := Lib.hid (HUI.out.below hb2)
   clear hb2 ho2 hq2
   go_wp2_with fail
   refine (lPutRising_any w2 Au k cu Q HUI2.out (by omega)).mono ?_
   rintro e w3 ⟨v3, n3, rfl, hb3, ho3⟩
   obtain ⟨rfl, hq3⟩ : n3 = 0 ∧ w3.ownsRow w2.heap.size 5 1 v3 (putR Q).length ((putR Q).map byteV) := by
    rcases ho3 with ⟨_, h2, h3⟩ | ⟨h1, _⟩
    ·exact ⟨h2, h3⟩
    ·rw [HRQ.out] at h1; cases h1
   obtain ⟨A3, c3, rfl, hc3⟩ := own_cap hq3
   have HB3 := Lib.hid (below_then HB2.out hb3 HB2.out.size)
   have HX3 := Lib.hid (HX2.out.below hb3)
   have HY3 := Lib.hid (BytesIn.own hq3 (by unfold maxLen; omega))
   clear hb3 ho3 hq3
   go_wp2_with fail
   refine (kConcat_any _ _ 2 2 _ (rows2 w3 A2 A3 c2 c3 (putR P) (putR Q) HX3.out HY3.out hc2 hc3) (by simp; omega) (by simp; omega) (by omega)).mono ?_
   rintro e w4 ⟨v4, rfl, ho4, hb4⟩
   have HB4 := Lib.hid (below_then (HB3.out.alloc HB3.out.size _) hb4 (by have := HB3.out.size; simp; omega))
   have HO4 := Lib.hid (rowBase_le (base' := w.heap.size) ho4 (by have := HB3.out.size; simp; omega))
   clear ho4 hb4
   go_wp2
   go_ret
   exact ⟨v4, rfl, by simpa using HO4.out, HB4.out⟩
end Go.Proofs.YthcjikpabpgpfaaGreat
namespace Go.Proofs.YthcjikpabpgpfaaGreat
open Go.RowKit Go.Maps Go.WideMaps Go.Shelf
def RetB (w : World) (x : Nm) (e : Ending) (w' : World) : Prop := ∃ v, e = .returned v ∧ w'.ownsRow w.heap.size 5 1 v x.length (x.map byteV) ∧ Below w.heap.size w w'
theorem gInB_any {w : World} {ga ge g7 g8 g9 a e fo fa : Nat} {co ca : Array Value} {A : Option Addr} {k c : Nat} {x : Nm} (ha : Blk w ga 3 #[.int .i64 a]) (he : Blk w ge 3 #[.int .i64 e]) (h7 : Blk w g7 82 #[.func (.func fo) #[] co]) (h8 : Blk w g8 162 #[.func (.func fa) #[] ca]) (h9 : Blk w g9 52 #[.slice A k c]) (hk : 0 < k)
  (hin : Calls Tryz.prog 86 #[.int .i64 a, .int .i64 e, .func (.func fo) #[] co, .func (.func fa) #[] ca, .slice (cutAddr A 1 c) (k - 1) (c - 1)] w.drew (RetB w x)) :
  Calls Tryz.prog 134 #[at0 ga, at0 ge, at0 g7, at0 g8, at0 g9] w (RetB w x) := by
 have a0 := ha.drew.cell 0
 have e0 := he.drew.cell 0
 have f0 := h7.drew.cell 0
 have r0 := h8.drew.cell 0
 have s0 := h9.drew.cell 0
 simp at a0 e0 f0 r0 s0
 have hsl : ∀ w, (Instr.slice 52 (.slice A k c) (some (.int .i64 1)) none none).run Tryz.prog w = .ok (.slice (cutAddr A 1 c) (k - 1) (c - 1)) w := fun w => by
  have := ints_from w A k c 1 (by omega)
  simpa using this
 have HIN := Lib.hid hin
 clear ha he h7 h8 h9 hin
 unfold at0
 go_enter Tryz.func134, Tryz.ntmps134
 go_wp2_with fail
 go_still_tail 6, (by kernel_rfl)
 change wpList _ _ _ _ _ w.drew
 go_wp2_with fail
 refine HIN.out.mono ?_
 rintro e w2 ⟨v, rfl, ho, hb⟩
 have HO := Lib.hid ho
 have HB := Lib.hid hb
 clear ho hb
 go_wp2
 go_ret
 exact ⟨v, rfl, HO.out, HB.out⟩
theorem gPartsBS (wB : World) (fo fa : Nat) (co ca : Array Value) (ega : ∀ args w, (callFunc fa args).run Tryz.prog w = .ok (.enter fa args) w) (ad : Addr) (k c s : Nat) (hk : 0 < k) (hs0 : 0 < s) (hs : s ≤ 16) (hcell : wB.cell? ad = some (.int .i64 s))
  (f t : Nat) (hft : f ≤ t) (ht : t ≤ 4096) (P : Nat → Prop) (G X : Nat → Nm) (hP0 : P f) (hPs : ∀ a, P a → a < t → P (a + s)) (hG0 : G f = []) (hGs : ∀ a, P a → a < t → G (min (a + s) t) = G a ++ X a) (hGl : ∀ a, a ≤ t → (G a).length ≤ 1099511627776)
  (har : ∀ (w : World) (a ga ge g7 g8 g9 : Nat), Below wB.heap.size wB w → P a → a < t → Blk w ga 3 #[.int .i64 a] → Blk w ge 3 #[.int .i64 (min (a + s) t : Nat)] → Blk w g7 82 #[.func (.func fo) #[] co] → Blk w g8 162 #[.func (.func fa) #[] ca] → Blk w g9 52 #[.slice (some ad) k c] →
   Calls Tryz.prog fa (#[.int .i64 a, .int .i64 (min (a + s) t : Nat), .func (.func 134) #[] #[at0 ga, at0 ge, at0 g7, at0 g8, at0 g9]] ++ ca) w (RetB w (X a)))
  (w : World) (hw : Below wB.heap.size wB w) :
  Calls Tryz.prog 86 #[.int .i64 f, .int .i64 t, .func (.func fo) #[] co, .func (.func fa) #[] ca, .slice (some ad) k c] w (RetB w (G t)) := by
 obtain ⟨i0, hi, hz0, hz1, hz2⟩ := info_parts byteInfo
 have HC := Lib.hid hcell
 have HW := Lib.hid hw
 have HAR := Lib.hid har
 have HPS := Lib.hid hPs
 have HGS := Lib.hid hGs
 have HGL := Lib.hid hGl
 have HG0 := Lib.hid hG0
 have HP0 := Lib.hid hP0
 have d0 : ((k : Int) == 0) = false := beq_eq_false_iff_ne.2 (by omega)
 clear hcell hw har hPs hGs hGl hG0 hP0
 go_enter Tryz.func86, Tryz.ntmps86
 go_wp2
 go_loopw [11, 13] (fun v p wr => ∃ (a g : Nat) (y : Nm), p = at0 g ∧ P a ∧ f ≤ a ∧ a ≤ t + 16 ∧ y = G (min a t) ∧ wr.ownsRow (w.heap.size + 3) 5 1 v y.length (y.map byteV) ∧ (∀ i, v.ownBlock = some i → i ≠ g) ∧ w.heap.size + 3 ≤ g ∧ Blk wr g 3 #[.int .i64 a] ∧ Below w.heap.size w wr ∧ Blk wr w.heap.size 82 #[.func (.func fo) #[] co] ∧ Blk wr (w.heap.size + 1) 162 #[.func (.func fa) #[] ca] ∧ Blk wr (w.heap.size + 1 + 1) 52 #[.slice (some ad) k c]) (fun _ p wr => t + 16 - cellNat wr p)
 case atStart =>
  have b1 := Blk.new w 82 #[.func (.func fo) #[] co]
  have b2 := Blk.new (w.alloc (.cells #[.func (.func fo) #[] co] 82)) 162 #[.func (.func fa) #[] ca]
  have b3 := Blk.new ((w.alloc (.cells #[.func (.func fo) #[] co] 82)).alloc (.cells #[.func (.func fa) #[] ca] 162)) 52 #[.slice (some ad) k c]
  have b4 := Blk.new (((w.alloc (.cells #[.func (.func fo) #[] co] 82)).alloc (.cells #[.func (.func fa) #[] ca] 162)).alloc (.cells #[.slice (some ad) k c] 52)) 3 #[.int .i64 (f : Int)]
  simp only [World.size_alloc] at b2 b3 b4
  exact ⟨f, w.heap.size + 1 + 1 + 1, [], rfl, HP0.out, Nat.le_refl _, by omega, by rw [Nat.min_eq_left hft, HG0.out], ⟨rfl, .inl ⟨rfl, rfl⟩⟩, (fun i e => by cases e), by omega, b4, (((((Below.refl _ w).alloc (Nat.le_refl _) _).alloc (by simp) _).alloc (by simp; omega) _).alloc (by simp; omega) _), ((b1.alloc _).alloc _).alloc _, (b2.alloc _).alloc _, b3.alloc _⟩
 case round =>
  obtain ⟨a, g, y, rfl, hp, hfa, hat, hy, hO, hne, hg, hG, hB, h7, h8, h9⟩ := hrel
  have HPA := Lib.hid hp
  have HY := Lib.hid hy
  have HO := Lib.hid hO
  have HNE := Lib.hid hne
  have HGK := Lib.hid hG
  have HB := Lib.hid hB
  have H7 := Lib.hid h7
  have H8 := Lib.hid h8
  have H9 := Lib.hid h9
  have c0 := hG.cell 0
  have c7 := h7.cell 0
  have c8 := h8.cell 0
  have c9 := h9.cell 0
  have cs := below_cells (HW.out.trans (hB.mono HW.out.size)) HC.out
  simp at c0 c7 c8 c9
  clear hp hy hO hne hG hB h7 h8 h9
  obtain ⟨Av, cv, hv⟩ := own_slice HO.out
  subst hv
  unfold at0
  rcases Nat.lt_or_ge a t with hlt | hge
  ·have hlt' : (a : Int) < (t : Int) := by omega
   obtain ⟨E, hE⟩ : ∃ E, E = min (a + s) t := ⟨_, rfl⟩
   have hmin : ∀ w ty, (Builtin.min_ #[3, 3] ty #[.int .i64 ((a : Int) + (s : Int)), .int .i64 (t : Int)]).run Tryz.prog w = .ok (.int .i64 (E : Int)) w := fun w ty => by
    rw [Lib.run_min_ints, show min ((a : Int) + (s : Int)) (t : Int) = (E : Int) by omega]
   have hw1 : IntKind.i64.wrap ((a : Int) + (s : Int)) = (a : Int) + (s : Int) := IntWalk.i64_in _ (by omega)
   have k0 : (0 : Int) < (k : Int) := by omega
   have a0 : ad.add 0 = ad := by simp [Addr.add]
   have HE := Lib.hid hE
   clear hE
   have u0 : (wr.alloc (.cells #[.int .i64 0] 3)).cell? ⟨g, 0, none⟩ = some (.int .i64 a) := (HGK.out.alloc _).cell 0
   have u9 : (wr.alloc (.cells #[.int .i64 0] 3)).cell? ⟨w.heap.size + 1 + 1, 0, none⟩ = some (.slice (some ad) k c) := (H9.out.alloc _).cell 0
   have us : (wr.alloc (.cells #[.int .i64 0] 3)).cell? ad = some (.int .i64 s) := below_cells ((Below.refl _ wr).alloc (Nat.le_refl _) _) cs
   go_wp2_with fail
   go_region
   obtain ⟨W1, hW1⟩ : ∃ W1, W1 = (wr.alloc (.cells #[.int .i64 (E : Int)] 3)).drew := ⟨_, rfl⟩
   rw [← hW1]
   have hb1 : Below wr.heap.size wr W1 := by rw [hW1]; exact ((Below.refl _ wr).alloc (Nat.le_refl _) _).drew
   have HEK : Hid (Blk W1 wr.heap.size 3 #[.int .i64 (E : Int)]) := Lib.hid (by rw [hW1]; exact (Blk.new _ _ _).drew)
   have HB1 := Lib.hid hb1
   have HG1 := Lib.hid (HGK.out.below hb1 HGK.out.lt)
   have H71 := Lib.hid (H7.out.below hb1 H7.out.lt)
   have H81 := Lib.hid (H8.out.below hb1 H8.out.lt)
   have H91 := Lib.hid (H9.out.below hb1 H9.out.lt)
   have HO1 := Lib.hid (ownsRow_block HO.out (w' := W1) fun i e => hb1.block i (HO.out.lt i e).2)
   have HW1 := Lib.hid (HW.out.trans ((below_then HB.out hb1 HB.out.size).mono HW.out.size))
   have hsz1 : W1.heap.size = wr.heap.size + 1 := by rw [hW1]; simp
   have k0 := HG1.out.cell 0
   have k7 := H71.out.cell 0
   have k8 := H81.out.cell 0
   have ke := HEK.out.cell 0
   simp at k0 k7 k8 ke
   have hx := HAR.out W1 a g wr.heap.size w.heap.size (w.heap.size + 1) (w.heap.size + 1 + 1) HW1.out HPA.out hlt HG1.out (by rw [← HE.out]; exact HEK.out) H71.out H81.out H91.out
   rw [← HE.out] at hx
   unfold at0 at hx
   have HX := Lib.hid hx
   have hgs := HGS.out a HPA.out hlt
   rw [← HE.out] at hgs
   have hyl := HGL.out (min a t) (Nat.min_le_right _ _)
   have hel := HGL.out E (by rw [HE.out]; exact Nat.min_le_right _ _)
   have hya : y = G a := by rw [HY.out, Nat.min_eq_left (Nat.le_of_lt hlt)]
   rw [← HY.out] at hyl
   rw [← hya] at hgs
   rw [hgs, List.length_append] at hel
   have HGE := Lib.hid hgs
   obtain ⟨x, hxe⟩ : ∃ x, x = X a := ⟨_, rfl⟩
   rw [← hxe] at HX HGE hel
   have hps := HPS.out a HPA.out hlt
   have HPN := Lib.hid hps
   clear hW1 hb1 u0 u9 us hx hgs hya hxe hps
   go_wp2_with fail
   refine HX.out.mono ?_
   rintro e w2 ⟨v2, rfl, ho2, hb2⟩
   obtain ⟨A2, c2, rfl, hc2⟩ := own_cap ho2
   have HX2 := Lib.hid (BytesIn.own ho2 (by unfold maxLen; omega))
   have HB2 := Lib.hid (below_then HB1.out hb2 HB1.out.size)
   have HB02 := Lib.hid (below_then HB.out HB2.out HB.out.size)
   have HO2 := Lib.hid (ownsRow_block HO1.out (w' := w2) fun i e => hb2.block i (HO1.out.lt i e).2)
   have HG2 := Lib.hid (HG1.out.below hb2 HG1.out.lt)
   have H72 := Lib.hid (H71.out.below hb2 H71.out.lt)
   have H82 := Lib.hid (H81.out.below hb2 H81.out.lt)
   have H92 := Lib.hid (H91.out.below hb2 H91.out.lt)
   have hsz2 := hb2.size
   have hwz := HB.out.size
   have hgz := HGK.out.lt
   have hws := HW.out.size
   clear ho2 hb2 k0 k7 k8 ke c0 c7 c8 c9 cs
   go_wp2_with (at_builtin; refine wpList_append_src _ rfl (.tmp 46) (.tmp 51) 24 rfl (w.heap.size + 3) 5 i0 (.int .u8 0) 1 Tryz.underlying24 hi hz0 hz1 hz2 rfl _ y.length (y.map byteV) rfl HO2.out A2 x.length c2 (x.map byteV) rfl HX2.out.2.1 (u8_one x) (by unfold maxLen; omega) (by omega) (by omega) ?_; intro v3 w3 hown3 hgrow3 hloc3; obtain ⟨A3, c3, hv3⟩ := own_slice hown3; subst hv3; have HO3 := Lib.hid hown3; have HB3 := Lib.hid (HB02.out.grown hgrow3 (by omega) (fun i e => by have := (HO2.out.lt i e).1; omega)); have HG3 := Lib.hid (HG2.out.grown hgrow3 (fun e => HNE.out g e.symm rfl)); have H73 := Lib.hid (H72.out.grown hgrow3 (fun e => by have := (HO2.out.lt _ e.symm).1; omega)); have H83 := Lib.hid (H82.out.grown hgrow3 (fun e => by have := (HO2.out.lt _ e.symm).1; omega)); have H93 := Lib.hid (H92.out.grown hgrow3 (fun e => by have := (HO2.out.lt _ e.symm).1; omega)); have g0 : w3.cell? ⟨g, 0, none⟩ = some (.int .i64 (a : Int)) := HG3.out.cell 0; have u9 : (w3.alloc (.cells #[.int .i64 (a : Int)] 3)).cell? ⟨w.heap.size + 1 + 1, 0, none⟩ = some (.slice (some ad) k c) := (H93.out.alloc _).cell 0; have us : (w3.alloc (.cells #[.int .i64 (a : Int)] 3)).cell? ad = some (.int .i64 (s : Int)) := below_cells ((HW.out.trans (HB3.out.mono HW.out.size)).alloc (Nat.le_trans HW.out.size HB3.out.size) _) HC.out; have hsz3 := HB3.out.size; clear hown3 hgrow3 hloc3)
   go_region
   go_wp2
   go_roundw
   case rel =>
    have hg3 := HG3.out.lt
    refine ⟨a + s, w3.heap.size, y ++ x, rfl, HPN.out, by omega, by omega, by rw [← HE.out]; exact HGE.out.symm, ?_, ?_, by omega, ?_, (HB3.out.alloc HB3.out.size _).drew, (H73.out.alloc _).drew, (H83.out.alloc _).drew, (H93.out.alloc _).drew⟩
    ·rw [List.length_append, List.map_append]
     exact own_alloc HO3.out _
    ·intro i e
     have := (HO3.out.lt i e).2
     omega
    ·have h1 := Blk.new w3 3 #[.int .i64 ((a : Int) + (s : Int))]
     rw [show ((a + s : Nat) : Int) = (a : Int) + (s : Int) by omega]
     exact h1.drew
   case measure =>
    have h1 := cellNat_at ((Blk.new w3 3 #[.int .i64 ((a : Int) + (s : Int))]).drew)
    have h2 := cellNat_at HGK.out
    unfold at0 at h1 h2
    show t + 16 - cellNat _ _ < t + 16 - cellNat _ _
    rw [h1, h2]
    omega
  ·have hz : ¬ ((a : Int) < (t : Int)) := by omega
   have hfin : y = G t := by rw [HY.out, Nat.min_eq_right hge]
   have HF := Lib.hid hfin
   clear hfin
   go_wp2
   go_ret
   exact ⟨_, rfl, by rw [← HF.out]; exact rowBase_le HO.out (by omega), HB.out⟩
theorem gPartsB0 (wB : World) (fo fa : Nat) (co ca : Array Value) (ego : ∀ args w, (callFunc fo args).run Tryz.prog w = .ok (.enter fo args) w) (A : Option Addr) (c : Nat)
  (f t : Nat) (hft : f ≤ t) (ht : t ≤ 4096) (U : Nat → Nm) (hGl : ∀ k, k ≤ t - f → (cat U f k).length ≤ 1099511627776)
  (hon : ∀ (w : World) (i : Nat), Below wB.heap.size wB w → f ≤ i → i < t → Calls Tryz.prog fo (#[.int .i64 i] ++ co) w (RetB w (U i)))
  (w : World) (hw : Below wB.heap.size wB w) :
  Calls Tryz.prog 86 #[.int .i64 f, .int .i64 t, .func (.func fo) #[] co, .func (.func fa) #[] ca, .slice A 0 c] w (RetB w (cat U f (t - f))) := by
 obtain ⟨i0, hi, hz0, hz1, hz2⟩ := info_parts byteInfo
 have HW := Lib.hid hw
 have HON := Lib.hid hon
 have HGL := Lib.hid hGl
 clear hw hon hGl
 go_enter Tryz.func86, Tryz.ntmps86
 go_wp2
 go_loopw [11, 12] (fun v i wr => ∃ (k : Nat) (y : Nm), f + k ≤ t ∧ i = .int .i64 (f + k : Nat) ∧ y = cat U f k ∧ wr.ownsRow (w.heap.size + 3) 5 1 v y.length (y.map byteV) ∧ Below w.heap.size w wr ∧ w.heap.size + 3 ≤ wr.heap.size ∧ Blk wr w.heap.size 82 #[.func (.func fo) #[] co]) (fun _ i _ => t - (intOf i).toNat)
 case atStart =>
  have b1 := Blk.new w 82 #[.func (.func fo) #[] co]
  exact ⟨0, [], by omega, rfl, rfl, ⟨rfl, .inl ⟨rfl, rfl⟩⟩, ((((Below.refl _ w).alloc (Nat.le_refl _) _).alloc (by simp) _).alloc (by simp; omega) _), by simp, (b1.alloc _).alloc _⟩
 case round =>
  obtain ⟨k, y, hk, rfl, hy, hO, hB, hsz, h7⟩ := hrel
  have HY := Lib.hid hy
  have HO := Lib.hid hO
  have HB := Lib.hid hB
  have H7 := Lib.hid h7
  have c7 := h7.cell 0
  simp at c7
  clear hy hO hB h7
  obtain ⟨Av, cv, hv⟩ := own_slice HO.out
  subst hv
  obtain ⟨i, hi'⟩ : ∃ i, i = f + k := ⟨_, rfl⟩
  rw [← hi'] at hk ⊢
  rcases Nat.lt_or_ge i t with hlt | hge
  ·have hlt' : (i : Int) < (t : Int) := by omega
   have hw5 : IntKind.i64.wrap ((i : Int) + 1) = (i : Int) + 1 := IntWalk.i64_in _ (by omega)
   have hx := HON.out wr i (HW.out.trans (HB.out.mono HW.out.size)) (by omega) hlt
   have hel := HGL.out (k + 1) (by omega)
   have hyl := HGL.out k (by omega)
   have hce : cat U f (k + 1) = y ++ U i := by rw [cat, HY.out, hi']
   rw [hce, List.length_append] at hel
   rw [← HY.out] at hyl
   obtain ⟨x, hxe⟩ : ∃ x, x = U i := ⟨_, rfl⟩
   rw [← hxe] at hx hel hce
   have HX := Lib.hid hx
   have HCE := Lib.hid hce
   have HI := Lib.hid hi'
   clear hx hce hxe hi'
   go_wp2_with fail
   refine HX.out.mono ?_
   rintro e w2 ⟨v2, rfl, ho2, hb2⟩
   obtain ⟨A2, c2, rfl, hc2⟩ := own_cap ho2
   have HX2 := Lib.hid (BytesIn.own ho2 (by unfold maxLen; omega))
   have HB2 := Lib.hid (below_then HB.out hb2 HB.out.size)
   have HO2 := Lib.hid (ownsRow_block HO.out (w' := w2) fun i e => hb2.block i (HO.out.lt i e).2)
   have H72 := Lib.hid (H7.out.below hb2 H7.out.lt)
   have hsz2 := hb2.size
   clear ho2 hb2 c7
   go_wp2_with (at_builtin; refine wpList_append_src _ rfl (.tmp 24) (.tmp 27) 24 rfl (w.heap.size + 3) 5 i0 (.int .u8 0) 1 Tryz.underlying24 hi hz0 hz1 hz2 rfl _ y.length (y.map byteV) rfl HO2.out A2 x.length c2 (x.map byteV) rfl HX2.out.2.1 (u8_one x) (by unfold maxLen; omega) (by omega) (by omega) ?_; intro v3 w3 hown3 hgrow3 hloc3; have HO3 := Lib.hid hown3; have HB3 := Lib.hid (HB2.out.grown hgrow3 (by omega) (fun i e => by have := (HO2.out.lt i e).1; omega)); have H73 := Lib.hid (H72.out.grown hgrow3 (fun e => by have := (HO2.out.lt _ e.symm).1; omega)); have hsz3 := hgrow3.size; clear hown3 hgrow3 hloc3)
   go_roundw
   case rel =>
    exact ⟨k + 1, y ++ x, by have := HI.out; omega, by have := HI.out; go_num, HCE.out.symm, by rw [List.length_append, List.map_append]; exact HO3.out, HB3.out, by omega, H73.out⟩
   case measure => simp [intOf]; omega
  ·have hz : ¬ ((i : Int) < (t : Int)) := by omega
   have hfin : y = cat U f (t - f) := by rw [HY.out, show t - f = k by omega]
   have HF := Lib.hid hfin
   clear hfin hi'
   go_wp2
   go_ret
   exact ⟨_, rfl, by rw [← HF.out]; exact rowBase_le HO.out (by omega), HB.out⟩
theorem RetB.drew {w w' : World} {x : Nm} {e : Ending} (h : RetB w.drew x e w') : RetB w x e w' := by
 obtain ⟨v, h1, h2, h3⟩ := h
 exact ⟨v, h1, h2, ⟨h3.os, h3.tape, h3.output, h3.size, h3.block⟩⟩
theorem gOne_any (w : World) (b : Nat) (A : Option Addr) (n c : Nat) (l : List Pst) (h : PostsSee w A n l) (hb : Blk w b 56 #[.slice A n c]) (hn : n ≤ 4096) (hV : ValidP l) (i : Nat) (hi : i < n) :
  Calls Tryz.prog 82 (#[.int .i64 i] ++ #[at0 b]) w (RetB w (unitB l i)) := by
 have hlen := h.len
 have HP := Lib.hid h
 have hmem := pAt_mem (show i < l.length by omega)
 obtain ⟨pa, x, SA, da, rfl, hx, -, -, a1, hda, sa⟩ := h.at i hi
 have hpx := pAt_eq hx
 have hup := hV.up i (by omega)
 have hgap := fun w' (hw' : PostsSee w' (some pa) n l) => gGap_any w' (some pa) n c l hw' hn hV i (i + 1) (by omega) (by omega) (by rw [Nat.add_sub_cancel]; exact hup)
 rw [show ((i + 1 : Nat) : Int) = (i : Int) + 1 by omega] at hgap
 have hs1 := hV.spots _ hmem
 have hs2 := hV.pos _ hmem
 have hs3 := hV.at_ _ hmem
 have hs4 := poss_le (hV.fit _ hmem)
 have hu : unitB l i = putL ((pAt l i).1 - lastD l i - 1).toNat ++ (putR (poss (pAt l i).2) ++ putR (atss (pAt l i).2)) := rfl
 obtain ⟨D, hD⟩ : ∃ D, D = ((pAt l i).1 - lastD l i - 1).toNat := ⟨_, rfl⟩
 simp only [Nat.add_sub_cancel] at hgap
 rw [← hD] at hu hgap
 rw [hpx] at hs1 hs2 hs3 hs4 hu
 have hdl : (putL D).length ≤ 10 := by
  have q1 := hV.docs _ hmem
  have q2 := hV.last (show i ≤ l.length by omega)
  exact putL_len D (by omega)
 have hpl := putR_len (by rw [(poss_len x.2).1]; exact hs1) hs2 hs4.1
 have hal := putR_len (by rw [(poss_len x.2).2]; exact hs1) hs3 hs4.2
 have hpos := putL_pos D
 obtain ⟨x1, x2⟩ := x
 simp only at a1 hda sa hs1 hs2 hs3 hu hpl hal
 have b0 := hb.cell 0
 simp at b0
 have hw1 : IntKind.i64.wrap ((i : Int) + 1) = (i : Int) + 1 := IntWalk.i64_in _ (by omega)
 have p0 : (0 : Int) ≤ (i : Int) := by omega
 have p1 : (i : Int) < (n : Int) := by omega
 have HGAP := Lib.hid hgap
 have HSA := Lib.hid sa
 have HU := Lib.hid hu
 have HR1 := Lib.hid hs2
 have HR2 := Lib.hid hs3
 clear h hx hpx hup hgap hmem hs4 hD hV hu sa hb hs2 hs3
 unfold at0
 rw [HU.out]
 obtain ⟨Z, hZ⟩ : ∃ Z, Z = putR (poss x2) ++ putR (atss x2) := ⟨_, rfl⟩
 rw [← hZ]
 have HZ := Lib.hid hZ
 have hzl : Z.length ≤ 81940 := by rw [hZ, List.length_append]; omega
 clear hZ hpl hal
 obtain ⟨Y, hY⟩ : ∃ Y, Y = putL D := ⟨_, rfl⟩
 rw [← hY] at HGAP hdl hpos ⊢
 clear hY HU
 simp only [List.append_toArray, List.cons_append, List.nil_append]
 go_enter Tryz.func82, Tryz.ntmps82
 go_wp2_with fail
 refine wp_region_held_drew (S := fun w' => w'.cell? ⟨b, 0, none⟩ = some (.slice (some pa) n c) ∧ w'.cell? ⟨(pa.add (i * 2)).block, (pa.add (i * 2)).off + 1, none⟩ = some (.slice SA x2.length da)) (by kernel_rfl) ?_ (fun hHeld => ?_)
 ·exact ⟨b0, a1⟩
 refine wpAnyH_take (i := 0) (oi := ?oit0) (v := ?vt0) ?hit0 (by kernel_rfl) (by kernel_rfl) (by kernel_rfl) ?hQt0 (Or.inl ⟨?hwt0, ?hyt0⟩) (by assumption) ?restt0
 case hit0 => (first | (simp only [lz0, lz1, lz2]; rfl) | rfl)
 case hQt0 => exact fun _ _ _ h => h
 case hwt0 => rfl
 case hyt0 => ((intro w hSw; obtain ⟨hS1, hS2⟩ := hSw; go_simp); first | done | with_reducible rfl)
 try simp only [Act.put, lz3, lz4, lz5]
 refine wpAnyH_take (i := 1) (oi := ?oit1) (v := ?vt1) ?hit1 (by kernel_rfl) (by kernel_rfl) (by kernel_rfl) ?hQt1 (Or.inl ⟨?hwt1, ?hyt1⟩) (by assumption) ?restt1
 case hit1 => (first | (simp only [lz0, lz1, lz2]; rfl) | rfl)
 case hQt1 => exact fun _ _ _ h => h
 case hwt1 => rfl
 case hyt1 => ((intro w hSw; obtain ⟨hS1, hS2⟩ := hSw; go_simp); first | done | with_reducible rfl)
 try simp only [Act.put, lz3, lz4, lz5]
 refine wpAnyH_take (i := 2) (oi := ?oit2) (v := ?vt2) ?hit2 (by kernel_rfl) (by kernel_rfl) (by kernel_rfl) ?hQt2 (Or.inl ⟨?hwt2, ?hyt2⟩) (by assumption) ?restt2
 case hit2 => (first | (simp only [lz0, lz1, lz2]; rfl) | rfl)
 case hQt2 => exact fun _ _ _ h => h
 case hwt2 => rfl
 case hyt2 => ((intro w hSw; obtain ⟨hS1, hS2⟩ := hSw; go_simp); first | done | with_reducible rfl)
 try simp only [Act.put, lz3, lz4, lz5]
 refine wpAnyH_take (i := 3) (oi := ?oit3) (v := ?vt3) ?hit3 (by kernel_rfl) (by kernel_rfl) (by kernel_rfl) ?hQt3 (Or.inl ⟨?hwt3, ?hyt3⟩) (by assumption) ?restt3
 case hit3 => (first | (simp only [lz0, lz1, lz2]; rfl) | rfl)
 case hQt3 => exact fun _ _ _ h => h
 case hwt3 => rfl
 case hyt3 => ((intro w hSw; obtain ⟨hS1, hS2⟩ := hSw; go_simp); first | done | with_reducible rfl)
 try simp only [Act.put, lz3, lz4, lz5]
 refine wpAnyH_take (i := 5) (oi := ?oit5) (v := ?vt5) ?hit5 (by kernel_rfl) (by kernel_rfl) (by kernel_rfl) ?hQt5 (Or.inl ⟨?hwt5, ?hyt5⟩) (by assumption) ?restt5
 case hit5 => (first | (simp only [lz0, lz1, lz2]; rfl) | rfl)
 case hQt5 => exact fun _ _ _ h => h
 case hwt5 => rfl
 case hyt5 => ((intro w hSw; obtain ⟨hS1, hS2⟩ := hSw; go_simp); first | done | with_reducible rfl)
 try simp only [Act.put, lz3, lz4, lz5]
 refine wpAnyH_take (i := 6) (oi := ?oit6) (v := ?vt6) ?hit6 (by kernel_rfl) (by kernel_rfl) (by kernel_rfl) ?hQt6 (Or.inl ⟨?hwt6, ?hyt6⟩) (by assumption) ?restt6
 case hit6 => (first | (simp only [lz0, lz1, lz2]; rfl) | rfl)
 case hQt6 => exact fun _ _ _ h => h
 case hwt6 => rfl
 case hyt6 => ((intro w hSw; obtain ⟨hS1, hS2⟩ := hSw; go_simp); first | done | with_reducible rfl)
 try simp only [Act.put, lz3, lz4, lz5]
 refine wpAnyH_take (i := 7) (oi := ?oit7) (v := ?vt7) ?hit7 (by kernel_rfl) (by kernel_rfl) (by kernel_rfl) ?hQt7 (Or.inl ⟨?hwt7, ?hyt7⟩) (by assumption) ?restt7
 case hit7 => (first | (simp only [lz0, lz1, lz2]; rfl) | rfl)
 case hQt7 => exact fun _ _ _ h => h
 case hwt7 => rfl
 case hyt7 => ((intro w hSw; obtain ⟨hS1, hS2⟩ := hSw; go_simp); first | done | with_reducible rfl)
 try simp only [Act.put, lz3, lz4, lz5]
 refine wpAnyH_take (i := 8) (oi := ?oit8) (v := ?vt8) ?hit8 (by kernel_rfl) (by kernel_rfl) (by kernel_rfl) ?hQt8 (Or.inl ⟨?hwt8, ?hyt8⟩) (by assumption) ?restt8
 case hit8 => (first | (simp only [lz0, lz1, lz2]; rfl) | rfl)
 case hQt8 => exact fun _ _ _ h => h
 case hwt8 => rfl
 case hyt8 => ((intro w hSw; obtain ⟨hS1, hS2⟩ := hSw; go_simp); first | done | with_reducible rfl)
 try simp only [Act.put, lz3, lz4, lz5]
 refine wpAnyH_take (i := 9) (oi := ?oit9) (v := ?vt9) ?hit9 (by kernel_rfl) (by kernel_rfl) (by kernel_rfl) ?hQt9 (Or.inl ⟨?hwt9, ?hyt9⟩) (by assumption) ?restt9
 case hit9 => (first | (simp only [lz0, lz1, lz2]; rfl) | rfl)
 case hQt9 => exact fun _ _ _ h => h
 case hwt9 => rfl
 case hyt9 => ((intro w hSw; obtain ⟨hS1, hS2⟩ := hSw; go_simp); first | done | with_reducible rfl)
 try simp only [Act.put, lz3, lz4, lz5]
 refine wpAnyH_ready (rs := [4]) (by kernel_rfl) (by simp) ?_
 refine AllReadyH.cons (o := ?oc1) ?hcc1 ?stc1 AllReadyH.nil
 case hcc1 => (simp only [lz0, lz1, lz2]; rfl)
 intro K hK
 go_simp
 refine (HGAP.out w.drew (HP.out.below ⟨rfl, rfl, rfl, Nat.le_refl _, fun _ _ => rfl⟩)).mono ?_
 rintro e w2 ⟨v2, rfl, ho2, hb2⟩
 have hb2' : Below w.heap.size w w2 := ⟨hb2.os, hb2.tape, hb2.output, hb2.size, hb2.block⟩
 obtain ⟨A2, c2, rfl, hc2⟩ := own_cap ho2
 have HX2 := Lib.hid (BytesIn.own ho2 (by unfold maxLen; omega))
 have HB2 := Lib.hid hb2'
 have hS2 := And.intro (below_cells hb2' b0) (below_cells hb2' a1)
 clear ho2 hb2 hb2'
 go_wp2_with fail
 refine hK.out _ _ hS2 (fun _ => ?_)
 clear hK K
 refine wpAnyH_ready (rs := [10]) (by kernel_rfl) (by simp) ?_
 refine AllReadyH.cons (o := ?oc2) ?hcc2 ?stc2 AllReadyH.nil
 case hcc2 => (simp only [lz0, lz1, lz2]; rfl)
 intro K hK
 go_simp
 refine (gSpots_any w2 SA x2.length da x2 (HSA.out.below HB2.out) hs1 HR1.out HR2.out).mono ?_
 rw [← HZ.out]
 rintro e w3 ⟨v3, rfl, ho3, hb3⟩
 obtain ⟨A3, c3, rfl, hc3⟩ := own_cap ho3
 have HB3 := Lib.hid (below_then HB2.out hb3 HB2.out.size)
 have HX3 := Lib.hid (HX2.out.below hb3)
 have HY3 := Lib.hid (BytesIn.own ho3 (by unfold maxLen; omega))
 have hS3 := And.intro (below_cells hb3 hS2.1) (below_cells hb3 hS2.2)
 clear ho3 hb3
 go_wp2_with fail
 refine hK.out _ _ hS3 (fun _ => ?_)
 clear hK K
 refine wpAnyH_ready (rs := [11]) (by kernel_rfl) (by simp) ?_
 refine AllReadyH.cons (o := ?oc3) ?hcc3 ?stc3 AllReadyH.nil
 case hcc3 => (simp only [lz0, lz1, lz2]; rfl)
 intro K hK
 go_simp
 have hbw : Below w3.heap.size w3 (w3.alloc (.cells #[.slice A2 Y.length c2, .slice A3 Z.length c3] 24)) := (Below.refl _ w3).alloc (Nat.le_refl _) _
 have hS4 := And.intro (below_cells hbw hS3.1) (below_cells hbw hS3.2)
 refine hK.out _ _ hS4 (fun _ => ?_)
 clear hK K
 try simp only [Act.put, lz3, lz4, lz5]
 refine wpAnyH_ready (rs := [12]) (by kernel_rfl) (by simp) ?_
 refine AllReadyH.cons (o := ?oc4) ?hcc4 ?stc4 AllReadyH.nil
 case hcc4 => (simp only [lz0, lz1, lz2]; rfl)
 intro K hK
 go_simp
 refine (kConcat_any _ _ 2 2 _ (rows2 w3 A2 A3 c2 c3 Y Z HX3.out HY3.out hc2 hc3) (by simp; omega) (by simp; omega) (by omega)).mono ?_
 rintro e w4 ⟨v4, rfl, ho4, hb4⟩
 have HB4 := Lib.hid (below_then (HB3.out.alloc HB3.out.size _) hb4 (by have := HB3.out.size; simp; omega))
 have HO4 := Lib.hid (rowBase_le (base' := w.heap.size) ho4 (by have := HB3.out.size; simp; omega))
 have hS5 := And.intro (below_cells hb4 hS4.1) (below_cells hb4 hS4.2)
 clear ho4 hb4
 go_wp2_with fail
 refine hK.out _ _ hS5 (fun _ => ?_)
 clear hK K
 refine wpAnyH_take (i := 13) (oi := ?oiu13) (v := ?vu13) ?hiu13 (by kernel_rfl) (by kernel_rfl) (by kernel_rfl) ?hQu13 (Or.inl ⟨?hwu13, ?hyu13⟩) (by assumption) ?restu13
 case hiu13 => (first | (simp only [lz0, lz1, lz2]; rfl) | rfl)
 case hQu13 => exact fun _ _ _ h => h
 case hwu13 => rfl
 case hyu13 => ((intro w hSw; obtain ⟨hS1, hS2⟩ := hSw; go_simp); first | done | with_reducible rfl)
 try simp only [Act.put, lz3, lz4, lz5]
 refine wpAnyH_done (by kernel_rfl) ?_ _
 go_wp2
 go_ret
 exact ⟨v4, rfl, by simpa using HO4.out, HB4.out⟩
theorem gAround_any (w : World) (b : Nat) (A : Option Addr) (n c : Nat) (l : List Pst) (h : PostsSee w A n l) (hb : Blk w b 56 #[.slice A n c]) (hn : n ≤ 4096) (hV : ValidP l) (f t : Nat) (hft : f < t) (ht : t ≤ n) (x : Nm) (hx : x.length ≤ 1099511600000) (cap : Array Value)
  (hin : Calls Tryz.prog 134 cap w (RetB w x)) :
  Calls Tryz.prog 85 (#[.int .i64 f, .int .i64 t, .func (.func 134) #[] cap] ++ #[at0 b]) w (RetB w (headB l f t x ++ x)) := by
 have hlen := h.len
 have HP := Lib.hid h
 have HBK := Lib.hid hb
 have hgap := fun w' (hw' : PostsSee w' A n l) => gGap_any w' A n c l hw' hn hV f t hft ht (hV.last_lt hft (by omega))
 have HIN := Lib.hid hin
 have eg : ∀ args w, (callFunc 134 args).run Tryz.prog w = .ok (.enter 134 args) w := enters_of Tryz.func134 (by kernel_rfl) rfl
 obtain ⟨D, hD⟩ : ∃ D, D = ((pAt l (t - 1)).1 - lastD l f - 1).toNat := ⟨_, rfl⟩
 have hdl : (putL D).length ≤ 10 := putL_len D (by rw [hD]; exact head_val hV (by omega) (by omega))
 have hpos := putL_pos D
 have hH : headB l f t x = putL D ++ putL x.length := by unfold headB; rw [← hD]
 rw [← hD] at hgap
 rw [hH]
 have HGAP := Lib.hid hgap
 have hxl : (putL x.length).length ≤ 10 := putL_len _ (by omega)
 obtain ⟨Y, hY⟩ : ∃ Y, Y = putL D := ⟨_, rfl⟩
 rw [← hY] at HGAP hdl hpos ⊢
 clear h hb hgap hV hin hD hH hY
 unfold at0
 simp only [List.append_toArray, List.cons_append, List.nil_append]
 go_enter Tryz.func85, Tryz.ntmps85
 go_wp2_with fail
 refine HIN.out.mono ?_
 rintro e w2 ⟨v2, rfl, ho2, hb2⟩
 obtain ⟨A2, c2, rfl, hc2⟩ := own_cap ho2
 have HX2 := Lib.hid (BytesIn.own ho2 (by unfold maxLen; omega))
 have HB2 := Lib.hid hb2
 have HP2 := Lib.hid (HP.out.below hb2)
 have b2 := (HBK.out.below hb2 HBK.out.lt).cell 0
 simp at b2
 clear ho2 hb2
 go_wp2_with fail
 refine (HGAP.out w2 HP2.out).mono ?_
 rintro e w3 ⟨v3, rfl, ho3, hb3⟩
 obtain ⟨A3, c3, rfl, hc3⟩ := own_cap ho3
 have HX3 := Lib.hid (HX2.out.below hb3)
 have HY3 := Lib.hid (BytesIn.own ho3 (by unfold maxLen; omega))
 have HB3 := Lib.hid (below_then HB2.out hb3 HB2.out.size)
 have hw5 : IntKind.u64.wrap (x.length : Int) = (x.length : Int) := IntWalk.u64_in _ (by omega)
 clear ho3 hb3 b2
 go_wp2_with fail
 refine (lPut_any w3 x.length (by omega)).mono ?_
 rintro e w4 ⟨v4, rfl, ho4, hb4⟩
 obtain ⟨A4, c4, rfl, hc4⟩ := own_cap ho4
 have HX4 := Lib.hid (HX3.out.below hb4)
 have HY4 := Lib.hid (HY3.out.below hb4)
 have HZ4 := Lib.hid (BytesIn.own ho4 (by unfold maxLen; omega))
 have HB4 := Lib.hid (below_then HB3.out hb4 HB3.out.size)
 clear ho4 hb4
 go_wp2_with fail
 refine (kConcat_any _ _ 3 3 _ (rows3 w4 A3 A4 A2 c3 c4 c2 Y (putL x.length) x HY4.out HZ4.out HX4.out hc3 hc4 hc2) (by simp; omega) (by simp; omega) (by omega)).mono ?_
 rintro e w5 ⟨v5, rfl, ho5, hb5⟩
 have HB5 := Lib.hid (below_then (HB4.out.alloc HB4.out.size _) hb5 (by have := HB4.out.size; simp; omega))
 have HO5 := Lib.hid (rowBase_le (base' := w.heap.size) ho5 (by have := HB4.out.size; simp; omega))
 clear ho5 hb5
 go_wp2
 go_ret
 exact ⟨v5, rfl, by simpa using HO5.out, HB5.out⟩
theorem gLevel1 (wB : World) (b : Nat) (A : Option Addr) (n c : Nat) (l : List Pst) (h : PostsSee wB A n l) (hb : Blk wB b 56 #[.slice A n c]) (hn : n ≤ 4096) (hV : ValidP l) (ad : Addr) (hcell : wB.cell? ad = some (.int .i64 (4 : Nat)))
  (f t : Nat) (hf : f % 16 = 0) (hft : f < t) (ht : t = min n (f + 16)) (w : World) (hw : Below wB.heap.size wB w) :
  Calls Tryz.prog 86 #[.int .i64 f, .int .i64 t, .func (.func 82) #[] #[at0 b], .func (.func 85) #[] #[at0 b], .slice (some ad) 1 1] w (RetB w (cat (linB l) f (t - f))) := by
 have hlen := h.len
 have hlin := fun k (hk : f + k ≤ n) => linBs_len hV (i := f) (k := k) (by omega)
 refine gPartsBS wB 82 85 #[at0 b] #[at0 b] (enters_of Tryz.func85 (by kernel_rfl) rfl) ad 1 1 4 (by omega) (by omega) (by omega) hcell f t (by omega) (by omega) (fun a => f ≤ a ∧ a % 4 = 0) (fun a => cat (linB l) f (a - f))
  (fun a => headB l a (min (a + 4) t) (cat (unitB l) a (min (a + 4) t - a)) ++ cat (unitB l) a (min (a + 4) t - a)) ⟨Nat.le_refl _, by omega⟩ (fun a ha _ => ⟨by omega, by omega⟩) (by simp [cat]) (fun a ha hat => ?_) (fun a hat => ?_) ?_ w hw
 ·exact (block_next (l := l) ha.1 ha.2 (by omega) (by omega)).symm
 ·show (cat (linB l) f (a - f)).length ≤ _
  have h1 := hlin (t - f) (by omega)
  rcases Nat.lt_or_ge f a with h2 | h2
  ·have := hlin (a - f) (by omega)
   have : 90020 * (a - f) ≤ 90020 * 4096 := Nat.mul_le_mul_left _ (by omega)
   omega
  ·rw [show a - f = 0 by omega]
   simp [cat]
 ·intro w1 a ga ge g7 g8 g9 hw1 ha hat ba be b7 b8 b9
  obtain ⟨E, hE⟩ : ∃ E, E = min (a + 4) t := ⟨_, rfl⟩
  rw [← hE] at be ⊢
  have hul := units_len hV (i := a) (k := E - a) (by omega)
  refine gAround_any w1 b A n c l (h.below hw1) (hb.below hw1 hb.lt) hn hV a E (by omega) (by omega) _ (by omega) _ ?_
  refine gInB_any ba be b7 b8 b9 (by omega) ?_
  refine Calls.mono (gPartsB0 wB 82 85 #[at0 b] #[at0 b] (enters_of Tryz.func82 (by kernel_rfl) rfl) _ _ a E (by omega) (by omega) (unitB l) (fun k hk => ?_) (fun w2 i hw2 hi1 hi2 => ?_) w1.drew hw1.drew) fun _ _ h => h.drew
  ·have := units_len hV (i := a) (k := k) (by omega)
   have : 90000 * k ≤ 90000 * 4096 := Nat.mul_le_mul_left _ (by omega)
   omega
  ·exact gOne_any w2 b A n c l (h.below hw2) (hb.below hw2 hb.lt) hn hV i (by omega)
theorem gLevel2 (wB : World) (b : Nat) (A : Option Addr) (n c : Nat) (l : List Pst) (h : PostsSee wB A n l) (hb : Blk wB b 56 #[.slice A n c]) (hn : n ≤ 4096) (hV : ValidP l) (gs : Nat) (hs : Blk wB gs 3 #[.int .i64 16, .int .i64 4]) (w : World) (hw : Below wB.heap.size wB w) :
  Calls Tryz.prog 86 #[.int .i64 (0 : Nat), .int .i64 n, .func (.func 82) #[] #[at0 b], .func (.func 85) #[] #[at0 b], .slice (some ⟨gs, 0, none⟩) 2 2] w (RetB w (cat (lin l) 0 n)) := by
 have hlen := h.len
 have hlin := fun k (hk : k ≤ n) => lins_len hV (i := 0) (k := k) (by omega)
 refine gPartsBS wB 82 85 #[at0 b] #[at0 b] (enters_of Tryz.func85 (by kernel_rfl) rfl) ⟨gs, 0, none⟩ 2 2 16 (by omega) (by omega) (by omega) (hs.cell 0) 0 n (by omega) (by omega) (fun a => a % 16 = 0) (fun a => cat (lin l) 0 a)
  (fun a => headB l a (min (a + 16) n) (cat (linB l) a (min (a + 16) n - a)) ++ cat (linB l) a (min (a + 16) n - a)) (by omega) (fun a ha _ => by omega) (by simp [cat]) (fun a ha hat => ?_) (fun a hat => ?_) ?_ w hw
 ·exact (group_next (l := l) ha (by omega) (by omega)).symm
 ·have := hlin a hat
  have : 90040 * a ≤ 90040 * 4096 := Nat.mul_le_mul_left _ (by omega)
  show (cat (lin l) 0 a).length ≤ _
  omega
 ·intro w1 a ga ge g7 g8 g9 hw1 ha hat ba be b7 b8 b9
  obtain ⟨E, hE⟩ : ∃ E, E = min (a + 16) n := ⟨_, rfl⟩
  rw [← hE] at be ⊢
  have hul := linBs_len hV (i := a) (k := E - a) (by omega)
  refine gAround_any w1 b A n c l (h.below hw1) (hb.below hw1 hb.lt) hn hV a E (by omega) (by omega) _ (by omega) _ ?_
  refine gInB_any ba be b7 b8 b9 (by omega) ?_
  rw [cutAddr_one _ _ (by omega), show (⟨gs, 0, none⟩ : Addr).add 1 = ⟨gs, 1, none⟩ by simp [Addr.add]]
  exact (gLevel1 wB b A n c l h hb hn hV _ (hs.cell 1) a E ha (by omega) (by omega) w1.drew hw1.drew).mono fun _ _ h => h.drew
theorem gPut_any (w : World) (A : Option Addr) (n c : Nat) (l : List Pst) (h : PostsSee w A n l) (hn : n ≤ 1000000) :
  Calls Tryz.prog 36 #[.slice A n c] w (PutPOut w l) := by
 have hlen := h.len
 have hfit := fit_of h
 have HP := Lib.hid h
 have b1 := Blk.new w 56 #[.slice A n c]
 have hb1 : Below w.heap.size w (w.alloc (.cells #[.slice A n c] 56)) := (Below.refl _ w).alloc (Nat.le_refl _) _
 obtain ⟨W1, hW1⟩ : ∃ W1, W1 = w.alloc (.cells #[.slice A n c] 56) := ⟨_, rfl⟩
 rw [← hW1] at b1 hb1
 have HW1 := Lib.hid hW1
 have HP1 := Lib.hid (h.below hb1)
 have HB1 := Lib.hid hb1
 have HBK1 := Lib.hid b1
 have t0 := b1.cell 0
 simp at t0
 have HTM := Lib.hid (gTooMany_any W1 A n c l HP1.out hn)
 obtain ⟨C, hC⟩ : ∃ C, C = checkP l := ⟨_, rfl⟩
 have HC := Lib.hid hC
 have hck : C = 2 ∨ (n ≤ 4096 ∧ (∀ x ∈ l, x.2.length ≤ 4096) ∧ ((okUp l n = true ∧ C = 0) ∨ (okUp l n = false ∧ C = 1))) := by
  rw [hC]
  unfold checkP
  by_cases h1 : 4096 < l.length
  ·exact .inl (if_pos h1)
  ·rw [if_neg h1]
   cases h2 : manyUp l l.length with
   | true => exact .inl (if_pos rfl)
   | false =>
    refine .inr ⟨by omega, fun x hx => ?_, ?_⟩
    ·obtain ⟨i, hi, rfl⟩ := pAt_of hx
     exact manyUp_iff.1 h2 i hi
    ·rw [hlen]
     cases h3 : okUp l n with
     | true => exact .inl ⟨rfl, by simp⟩
     | false => exact .inr ⟨rfl, by simp⟩
 rw [← hC] at HTM
 unfold PutPOut
 rw [← hC]
 clear h hb1 b1 hW1
 go_enter Tryz.func36, Tryz.ntmps36
 go_wp2_with fail
 rw [← HW1.out]
 refine HTM.out.mono ?_
 rintro e w2 ⟨rfl, hb2⟩
 have HB2 := Lib.hid (below_then HB1.out hb2 HB1.out.size)
 have HP2 := Lib.hid (HP1.out.below hb2)
 have HBK2 := Lib.hid (HBK1.out.below hb2 HBK1.out.lt)
 have t2 := HBK2.out.cell 0
 simp at t2
 clear hb2 t0
 rcases hck with hc2 | ⟨hn4, hsp, hck⟩
 ·have hE : putE l = [] := by unfold putE; rw [if_neg (by rw [← HC.out, hc2]; decide)]
  subst hc2
  rw [decide_eq_true rfl]
  have HE := Lib.hid hE
  clear hC hE hfit
  go_wp2
  go_ret2
  exact ⟨_, rfl, by rw [HE.out]; exact ⟨rfl, .inl ⟨rfl, rfl⟩⟩, HB2.out⟩
 ·have hC2 : C ≠ 2 := by rcases hck with ⟨_, h1⟩ | ⟨_, h1⟩ <;> rw [h1] <;> decide
  rw [decide_eq_false hC2]
  have HVA := Lib.hid (gValid_any w2 A n c l HP2.out hn4 hsp)
  clear hC
  go_wp2_with fail
  refine HVA.out.mono ?_
  rintro e w3 ⟨rfl, hb3⟩
  have HB3 := Lib.hid (below_then HB2.out hb3 HB2.out.size)
  have HP3 := Lib.hid (HP2.out.below hb3)
  have HBK3 := Lib.hid (HBK2.out.below hb3 HBK2.out.lt)
  have t3 := HBK3.out.cell 0
  simp at t3
  clear hb3 t2
  rcases hck with ⟨hok, hc⟩ | ⟨hok, hc⟩
  ·subst hc
   have hV := (check_ok hfit).1 HC.out.symm
   have hE : putE l = putL n ++ cat (lin l) 0 n := by unfold putE; rw [if_pos HC.out.symm, putP, hlen]
   rw [hok]
   have HE := Lib.hid hE
   have HV := Lib.hid hV
   have hkl : (cat (lin l) 0 n).length ≤ 368803840 := by
    have h1 := lins_len hV (i := 0) (k := n) (by omega)
    have : 90040 * n ≤ 90040 * 4096 := Nat.mul_le_mul_left _ hn4
    omega
   have bs := Blk.new w3 3 #[.int .i64 16, .int .i64 4]
   have hbs : Below w3.heap.size w3 (w3.alloc (.cells #[.int .i64 16, .int .i64 4] 3)) := (Below.refl _ w3).alloc (Nat.le_refl _) _
   have hcall := gLevel2 (w3.alloc (.cells #[.int .i64 16, .int .i64 4] 3)) w.heap.size A n c l (HP3.out.below hbs) (HBK3.out.below hbs HBK3.out.lt) hn4 hV w3.heap.size bs _ (Below.refl _ _)
   unfold at0 at hcall
   have HCALL := Lib.hid hcall
   have HB3s := Lib.hid (below_then HB3.out hbs HB3.out.size)
   have HBKs := Lib.hid (HBK3.out.below hbs HBK3.out.lt)
   have hnl := putL_pos n
   have hnl2 := putL_len n (by omega)
   have hw5 : IntKind.u64.wrap (n : Int) = (n : Int) := IntWalk.u64_in _ (by omega)
   obtain ⟨Z, hZ⟩ : ∃ Z, Z = cat (lin l) 0 n := ⟨_, rfl⟩
   rw [← hZ] at hkl HE HCALL
   clear hok hE hV hfit hsp bs hbs hcall hZ HTM
   go_wp2_with fail
   refine HCALL.out.mono ?_
   rintro e w4 ⟨v4, rfl, ho4, hb4⟩
   obtain ⟨A4, c4, rfl, hc4⟩ := own_cap ho4
   have HX4 := Lib.hid (BytesIn.own ho4 (by unfold maxLen; omega))
   have HB4 := Lib.hid (below_then HB3s.out hb4 HB3s.out.size)
   have t4 := (HBKs.out.below hb4 HBKs.out.lt).cell 0
   simp at t4
   clear ho4 hb4 t3
   go_wp2_with fail
   refine (lPut_any w4 n (by omega)).mono ?_
   rintro e w5 ⟨v5, rfl, ho5, hb5⟩
   obtain ⟨A5, c5, rfl, hc5⟩ := own_cap ho5
   have HX5 := Lib.hid (HX4.out.below hb5)
   have HY5 := Lib.hid (BytesIn.own ho5 (by unfold maxLen; omega))
   have HB5 := Lib.hid (below_then HB4.out hb5 HB4.out.size)
   clear ho5 hb5 t4
   go_wp2_with fail
   refine (kConcat_any _ _ 2 2 _ (rows2 w5 A5 A4 c5 c4 (putL n) Z HY5.out HX5.out hc5 hc4) (by simp; omega) (by simp; omega) (by omega)).mono ?_
   rintro e w6 ⟨v6, rfl, ho6, hb6⟩
   have HB6 := Lib.hid (below_then (HB5.out.alloc HB5.out.size _) hb6 (by have := HB5.out.size; simp; omega))
   have HO6 := Lib.hid (rowBase_le (base' := w.heap.size) ho6 (by have := HB5.out.size; simp; omega))
   clear ho6 hb6
   go_wp2
   go_ret2
   exact ⟨v6, rfl, by rw [HE.out]; simpa using HO6.out, HB6.out⟩
  ·subst hc
   have hE : putE l = [] := by unfold putE; rw [if_neg (by rw [← HC.out]; decide)]
   rw [hok]
   have HE := Lib.hid hE
   clear hok hE hfit hsp
   go_wp2
   go_ret2
   exact ⟨_, rfl, by rw [HE.out]; exact ⟨rfl, .inl ⟨rfl, rfl⟩⟩, HB3.out⟩
end Go.Proofs.YthcjikpabpgpfaaGreat
namespace Go.Proofs.YthcjikpabpgpfaaGreat
open Go.RowKit Go.Maps Go.WideMaps
theorem lOver_any (w : World) (v : Nat) (most : Int) (hm1 : -9223372036854775808 ≤ most) (hm2 : most ≤ 9223372036854775807) :
  Calls Tryz.prog 149 #[.int .u64 v, .int .i64 most] w fun e w' => e = .returned (.bool (decide (most < 0 ∨ most < (v : Int)))) ∧ w' = w := by
 by_cases hm : most < 0
 ·have d1 : decide (most < 0) = true := by simpa using hm
  rw [decide_eq_true (Or.inl hm)]
  go_enter Tryz.func149, Tryz.ntmps149
  go_wp2
  go_ret
  exact ⟨rfl, rfl⟩
 ·have d1 : decide (most < 0) = false := by simpa using hm
  have hwm : IntKind.u64.wrap most = most := by rw [IntKind.wrap_u64]; omega
  have e : decide (most < 0 ∨ most < (v : Int)) = decide (most < (v : Int)) := by
   by_cases h : most < (v : Int) <;> simp [h, hm]
  rw [e]
  clear e hm
  go_enter Tryz.func149, Tryz.ntmps149
  go_wp2
  go_ret
  exact ⟨rfl, rfl⟩
theorem rInt_bounds (s : Rd) (most : Int) (h1 : -9223372036854775808 ≤ most) (h2 : most ≤ 9223372036854775807) : -9223372036854775808 ≤ (rInt s most).1 ∧ (rInt s most).1 ≤ 9223372036854775807 := by
 unfold rInt
 split
 ·simp
 ·split
  ·simp
  ·split
   ·simp
   ·simp only
    omega
theorem own_le {w : World} {base : Nat} {e : TypeId} {A : Option Addr} {n c : Nat} {xs : List Value} (h : w.ownsRow base e 1 (.slice A n c) n xs) : n ≤ c := by
 obtain ⟨A', c', h1, h2⟩ := own_cap h
 injection h1 with _ _ h3
 omega
def rRest (s : Rd) : Nm := if s.e ≠ 0 then [] else s.bs.drop s.p
theorem rRest_ok {s : Rd} (h : s.e = 0) : rRest s = s.bs.drop s.p := by unfold rRest; rw [if_neg (by simpa using h)]
theorem rRest_bad {s : Rd} (h : s.e ≠ 0) : rRest s = [] := by unfold rRest; rw [if_pos h]
theorem rRest_len {s : Rd} : (rRest s).length = rLeft s := by
 unfold rRest rLeft
 split
 ·rfl
 ·simp
structure IsR (w : World) (b : Nat) (g : Nat → Prop) (s : Rd) : Prop where
 at_ : ∃ A c, Blk w b 255 #[.slice A (rRest s).length c, .int .i64 s.e] ∧ BytesIn w A (rRest s).length (rRest s) ∧ (rRest s).length ≤ c ∧ ∀ ad, A = some ad → 0 < (rRest s).length → g ad.block
 ne : ¬ g b
 lt : ∀ i, g i → i < w.heap.size
 ok : s.Ok
 fit : s.bs.length ≤ 1099511627776
theorem IsR.kept {w w' : World} {b : Nat} {g : Nat → Prop} {s : Rd} (h : IsR w b g s) {F : Nat → Prop} (hk : Kept F w w') (hb : ¬ F b) (hg : ∀ i, g i → ¬ F i) : IsR w' b g s := by
 obtain ⟨A, c, h1, h2, h3, h4⟩ := h.at_
 exact ⟨⟨A, c, h1.kept hk hb, h2.keep hk (fun ad e h0 => hg _ (h4 ad e h0)), h3, h4⟩, h.ne, fun i hi => Nat.lt_of_lt_of_le (h.lt i hi) hk.size, h.ok, h.fit⟩
theorem lErr_any (w : World) (b : Nat) (g : Nat → Prop) (s : Rd) (hR : IsR w b g s) :
  Calls Tryz.prog 150 #[at0 b] w fun e w' => e = .returned (.int .i64 s.e) ∧ w' = w := by
 obtain ⟨A, c, h1, h2, h3, h4⟩ := hR.at_
 have c1 := h1.cell 1
 simp at c1
 clear h1 h2 h3 h4 hR
 unfold at0
 go_enter Tryz.func150, Tryz.ntmps150
 go_wp2
 go_ret
 exact ⟨rfl, rfl⟩
theorem lLeft_any (w : World) (b : Nat) (g : Nat → Prop) (s : Rd) (hR : IsR w b g s) :
  Calls Tryz.prog 151 #[at0 b] w fun e w' => e = .returned (.int .i64 (rLeft s)) ∧ w' = w := by
 obtain ⟨A, c, h1, h2, h3, h4⟩ := hR.at_
 rw [rRest_len] at h1
 have c0 := h1.cell 0
 simp at c0
 clear h1 h2 h3 h4 hR
 unfold at0
 go_enter Tryz.func151, Tryz.ntmps151
 go_wp2
 go_ret
 exact ⟨rfl, rfl⟩
def ReadOut (w : World) (b : Nat) (g : Nat → Prop) (s : Rd) (FF : Nat → Prop) (Q : Nat → Int → World → Prop) (e : Ending) (w' : World) : Prop :=
 e = .returned (.tuple #[]) ∧ ((s.e ≠ 0 ∧ w' = w) ∨ (s.e = 0 ∧ ∃ k er w1, Q k er w1 ∧ Kept FF w w1 ∧ Kept (fun i => i = b) w1 w' ∧ IsR w' b g (if er ≠ 0 then { s with e := er } else { s with p := s.p + k })))
theorem lRead_any (f : Nat) (cap : Array Value) (eg : ∀ args w, (callFunc f args).run Tryz.prog w = .ok (.enter f args) w) (w : World) (b : Nat) (g : Nat → Prop) (s : Rd) (hR : IsR w b g s) (FF : Nat → Prop) (hb : ¬ FF b) (hg : ∀ i, g i → ¬ FF i) (Q : Nat → Int → World → Prop)
  (hcl : s.e = 0 → ∀ A c, BytesIn w A (rRest s).length (rRest s) → (rRest s).length ≤ c → Calls Tryz.prog f (#[.slice A (rRest s).length c] ++ cap) w fun e w1 => ∃ (k : Nat) (er : Int), e = .returned (.tuple #[.int .i64 k, .int .i64 er]) ∧ Q k er w1 ∧ Kept FF w w1 ∧ (er = 0 → k ≤ (rRest s).length)) :
  Calls Tryz.prog 146 #[at0 b, .func (.func f) #[] cap] w (ReadOut w b g s FF Q) := by
 have HR := Lib.hid hR
 obtain ⟨A, c, h1, h2, h3, h4⟩ := hR.at_
 have c0 := h1.cell 0
 have c1 := h1.cell 1
 simp at c0 c1
 have hfit := hR.fit
 clear hR
 unfold at0
 by_cases he : s.e = 0
 ·have HC := Lib.hid (hcl he A c h2 h3)
  have d0 : (s.e != 0) = false := by simpa using he
  obtain ⟨n, hn⟩ : ∃ n, n = (rRest s).length := ⟨_, rfl⟩
  have hnl : n ≤ 1099511627776 := by
   rw [hn, rRest_ok he, List.length_drop]
   omega
  rw [← hn] at c0 h1 h3 h2 h4
  have H1 := Lib.hid h1
  have H2 := Lib.hid h2
  have H4 := Lib.hid h4
  have HE := Lib.hid he
  have HNN := Lib.hid hn
  have hc2 := HC.out
  rw [← hn] at hc2
  have HC2 := Lib.hid hc2
  clear HC h1 h2 h4 he hn hc2 hcl
  go_enter Tryz.func146, Tryz.ntmps146
  go_wp2_with fail
  refine HC2.out.mono ?_
  rintro e w1 ⟨k, er, rfl, hQ, hK, hkn⟩
  have HQ := Lib.hid hQ
  have HK := Lib.hid hK
  have b1 := H1.out.kept hK hb
  have k0 := b1.cell 0
  have k1 := b1.cell 1
  have z0 := b1.frozen 0
  have z1 := b1.frozen 1
  simp at k0 k1
  have B1 := Lib.hid b1
  clear hQ hK b1 c0 c1
  by_cases her : er = 0
  ·subst her
   have hkn2 := hkn rfl
   clear hkn
   have hkn := hkn2
   clear hkn2
   have s1 : ∀ w, (Instr.slice 24 (.slice A n c) (some (.int .i64 k)) none none).run Tryz.prog w = .ok (.slice (cutAddr A k c) (n - k) (c - k)) w := fun w => slice_from w A n c k hkn
   go_wp2
   go_end0
   refine ⟨rfl, .inr ⟨HE.out, k, 0, w1, HQ.out, HK.out, (Kept.refl (fun i => i = b) w1).setCell (.inl rfl) _, ?_⟩⟩
   rw [if_neg (by simp)]
   have hr : rRest s = s.bs.drop s.p := rRest_ok HE.out
   have hr2 : rRest { s with p := s.p + k } = s.bs.drop (s.p + k) := rRest_ok (s := { s with p := s.p + k }) HE.out
   have hln : n = s.bs.length - s.p := by rw [HNN.out, hr, List.length_drop]
   have hl2 : (s.bs.drop (s.p + k)).length = n - k := by rw [List.length_drop, hln]; omega
   have hin := (H2.out.keep HK.out (fun ad e h0 => hg _ (H4.out ad e h0))).sub h3 k n hkn (Nat.le_refl _)
   have e3 : ((rRest s).take n).drop k = s.bs.drop (s.p + k) := by
    rw [HNN.out, List.take_length, hr, List.drop_drop]
   rw [e3] at hin
   have hp := HR.out.ok.place
   refine ⟨⟨cutAddr A k c, c - k, ?_, ?_, ?_, ?_⟩, HR.out.ne, fun i hi => by have h1 := HR.out.lt i hi; have h2 := HK.out.size; simp [World.setCell]; omega, ⟨by simp only; omega⟩, HR.out.fit⟩
   ·rw [hr2, hl2]
    exact B1.out.set_ 0 _
   ·rw [hr2, hl2]
    exact hin.keep ((Kept.refl (fun i => i = b) w1).setCell (.inl rfl) _) (fun ad e h0 => by
     have hbk : g ad.block := by
      unfold cutAddr at e
      split at e
      ·exact H4.out ad e (by omega)
      ·cases hA : A with
       | none => rw [hA] at e; cases e
       | some a =>
        rw [hA] at e
        simp only [Option.map_some, Option.some.injEq] at e
        subst e
        have hb : (a.add k).block = a.block := by unfold Addr.add; split <;> rfl
        rw [hb]
        exact H4.out a hA (by omega)
     exact fun e => HR.out.ne (e ▸ hbk))
   ·rw [hr2, hl2]; omega
   ·rw [hr2, hl2]
    intro ad e h0
    unfold cutAddr at e
    split at e
    ·exact H4.out ad e (by omega)
    ·cases hA : A with
     | none => rw [hA] at e; cases e
     | some a =>
      rw [hA] at e
      simp only [Option.map_some, Option.some.injEq] at e
      subst e
      have hb : (a.add k).block = a.block := by unfold Addr.add; split <;> rfl
      rw [hb]
      exact H4.out a hA (by omega)
  ·have d1 : (er != 0) = true := by simpa using her
   have HER := Lib.hid her
   clear her
   go_wp2
   go_end0
   refine ⟨rfl, .inr ⟨HE.out, k, er, w1, HQ.out, HK.out, ((Kept.refl (fun i => i = b) w1).setCell (.inl rfl) _).setCell (.inl rfl) _, ?_⟩⟩
   rw [if_pos HER.out]
   have hr2 : rRest { s with e := er } = [] := rRest_bad (s := { s with e := er }) HER.out
   refine ⟨⟨none, 0, ?_, ?_, ?_, ?_⟩, HR.out.ne, fun i hi => by have h1 := HR.out.lt i hi; have h2 := HK.out.size; simp [World.setCell]; omega, ⟨HR.out.ok.place⟩, HR.out.fit⟩
   ·rw [hr2]
    exact (B1.out.set_ 0 _).set_ 1 _
   ·rw [hr2]; exact BytesIn.nil _
   ·rw [hr2]; exact Nat.zero_le _
   ·intro ad e; cases e
 ·have d0 : (s.e != 0) = true := by simpa using he
  have HE := Lib.hid he
  clear he hcl h1 h2 h3 h4
  go_enter Tryz.func146, Tryz.ntmps146
  go_wp2
  go_end0
  exact ⟨rfl, .inl ⟨HE.out, rfl⟩⟩
end Go.Proofs.YthcjikpabpgpfaaGreat
namespace Go.Proofs.YthcjikpabpgpfaaGreat
structure PR where
 left : List UInt8
 last : Int
 bad : Bool
def PR.fail (s : PR) : PR := ⟨[], s.last, true⟩
def rNum (s : PR) (most : Nat) : Nat × PR := if (getL s.left).2.2 ≠ 0 ∨ most < (getL s.left).1 then (0, s.fail) else ((getL s.left).1, ⟨s.left.drop (getL s.left).2.1, s.last, s.bad⟩)
def rRise (s : PR) : List Int × PR := if (getR s.left 4096).2.2 ≠ 0 then ([], s.fail) else ((getR s.left 4096).1, ⟨s.left.drop (getR s.left 4096).2.1, s.last, s.bad⟩)
def rDoc (s : PR) : Int × PR := (s.last + 1 + (rNum s 4294967296).1, if 4294967296 < s.last + 1 + (rNum s 4294967296).1 then (rNum s 4294967296).2.fail else (rNum s 4294967296).2)
def rSpots (d : Int) (p a : List Int × PR) : List Pst × PR := if p.1.length = 0 ∨ p.1.length ≠ a.1.length then ([], a.2.fail) else ([(d, p.1.zip a.1)], ⟨a.2.left, d, a.2.bad⟩)
def rPost (s : PR) : List Pst × PR := rSpots (rDoc s).1 (rRise (rDoc s).2) (rRise (rRise (rDoc s).2).2)
def rEnd (d : Int) (z : Nat × PR) (q : List Pst × PR) : List Pst × PR := (q.1, if q.2.last ≠ d ∨ (q.2.left.length : Int) ≠ (z.2.left.length : Int) - z.1 then q.2.fail else q.2)
def rPart (inside : PR → List Pst × PR) (s : PR) : List Pst × PR := rEnd (rDoc s).1 (rNum (rDoc s).2 (rDoc s).2.left.length) (inside (rNum (rDoc s).2 (rDoc s).2.left.length).2)
def runP (f : Nat → PR → List Pst × PR) (a st : Nat) : Nat → PR → List Pst × PR
 | 0, s => ([], s)
 | k + 1, s => ((runP f a st k s).1 ++ (f (a + k * st) (runP f a st k s).2).1, (f (a + k * st) (runP f a st k s).2).2)
def run0 (a t : Nat) (s : PR) : List Pst × PR := runP (fun _ => rPost) a 1 (t - a) s
def run1 (a t : Nat) (s : PR) : List Pst × PR := runP (fun i => rPart (run0 i (min (i + 4) t))) a 4 ((t - a + 3) / 4) s
def run2 (a t : Nat) (s : PR) : List Pst × PR := runP (fun i => rPart (run1 i (min (i + 16) t))) a 16 ((t - a + 15) / 16) s
def rStart (b : List UInt8) : PR := ⟨b, -1, false⟩
def rAll (b : List UInt8) : List Pst × PR := run2 0 (rNum (rStart b) 4096).1 (rNum (rStart b) 4096).2
def getM (b : List UInt8) : List Pst × Int := if (rAll b).2.bad = true ∨ 0 < (rAll b).2.left.length then ([], 3) else ((rAll b).1, 0)
def sl (l : List Pst) (x y : Nat) : List Pst := (l.drop x).take (y - x)
theorem sl_none (l : List Pst) (x : Nat) : sl l x x = [] := by simp [sl]
theorem sl_cat (l : List Pst) {x y z : Nat} (h1 : x ≤ y) (h2 : y ≤ z) : sl l x y ++ sl l y z = sl l x z := by
 unfold sl
 have e : l.drop y = (l.drop x).drop (y - x) := by rw [List.drop_drop]; congr 1; omega
 rw [e, show z - x = (y - x) + (z - y) by omega, List.take_add]
theorem sl_one {l : List Pst} {x : Nat} (h : x < l.length) : sl l x (x + 1) = [pAt l x] := by
 unfold sl
 rw [show x + 1 - x = 1 by omega, List.drop_eq_getElem_cons h, List.take_succ_cons, List.take_zero]
 unfold pAt
 rw [List.getD_eq_getElem?_getD, List.getElem?_eq_getElem h]
 rfl
theorem sl_all (l : List Pst) : sl l 0 l.length = l := by simp [sl]
theorem lastD_succ (l : List Pst) (i : Nat) : lastD l (i + 1) = (pAt l i).1 := by unfold lastD; rw [if_neg (by omega), Nat.add_sub_cancel]
def V1 (p : Int) (x : Pst) : Prop := p < x.1 ∧ x.1 ≤ 4294967296 ∧ 0 < x.2.length ∧ x.2.length ≤ 4096 ∧ rises (-1) (poss x.2) = true ∧ rises (-1) (atss x.2) = true ∧ ∀ s ∈ x.2, s.1 ≤ 9223372036854775807 ∧ s.2 ≤ 9223372036854775807
def agrees (l : List Pst) (i : Nat) (m : List Pst) : Prop := ∀ j, j < m.length → pAt l (i + j) = pAt m j
theorem agrees_left {l a b : List Pst} {i : Nat} (h : agrees l i (a ++ b)) : agrees l i a := fun j hj => by
 have := h j (by rw [List.length_append]; omega)
 rwa [pAt_left hj] at this
theorem agrees_right {l a b : List Pst} {i : Nat} (h : agrees l i (a ++ b)) : agrees l (i + a.length) b := fun j hj => by
 have := h (a.length + j) (by rw [List.length_append]; omega)
 rw [pAt_right (by omega), show a.length + j - a.length = j by omega] at this
 rwa [Nat.add_assoc]
theorem runP_comp (f : Nat → PR → List Pst × PR) (l : List Pst) (F : Nat → List UInt8) (a st t : Nat) (hst : 0 < st) (hat : a ≤ t)
  (hstep : ∀ i, a ≤ i → i < t → (i - a) % st = 0 → ∀ s r, s.bad = false → s.last = lastD l i → s.left = cat F i (min (i + st) t - i) ++ r → f i s = (sl l i (min (i + st) t), ⟨r, lastD l (min (i + st) t), false⟩)) :
  ∀ k, a + k * st < t + st → ∀ s r, s.bad = false → s.last = lastD l a → s.left = cat F a (min (a + k * st) t - a) ++ r → runP f a st k s = (sl l a (min (a + k * st) t), ⟨r, lastD l (min (a + k * st) t), false⟩)
 | 0, hk, s, r, h1, h2, h3 => by
  obtain ⟨left, last, bad⟩ := s
  simp only [Nat.zero_mul, Nat.add_zero, Nat.min_eq_left hat, Nat.sub_self, cat, List.nil_append] at h1 h2 h3 ⊢
  rw [runP, sl_none, h1, h2, h3]
 | k + 1, hk, s, r, h1, h2, h3 => by
  have e : (k + 1) * st = k * st + st := Nat.succ_mul k st
  obtain ⟨i, hi⟩ : ∃ i, i = a + k * st := ⟨_, rfl⟩
  have hia : (i - a) % st = 0 := by rw [hi, Nat.add_sub_cancel_left]; exact Nat.mul_mod_left k st
  have e2 : a + (k + 1) * st = i + st := by omega
  have hit : i < t := by omega
  have hm : min (a + k * st) t = i := by omega
  obtain ⟨E, hE⟩ : ∃ E, E = min (i + st) t := ⟨_, rfl⟩
  rw [e2, ← hE] at h3 ⊢
  have hiE : i ≤ E ∧ a ≤ i := by omega
  have h4 : cat F a (E - a) = cat F a (i - a) ++ cat F i (E - i) := by
   have := cat_add F a (i - a) (E - i)
   rwa [show i - a + (E - i) = E - a by omega, show a + (i - a) = i by omega] at this
  rw [h4, List.append_assoc] at h3
  have ih := runP_comp f l F a st t hst hat hstep k (by omega) s (cat F i (E - i) ++ r) h1 h2 (by rw [hm]; exact h3)
  rw [hm] at ih
  rw [runP, ih, ← hi]
  simp only
  rw [hstep i hiE.2 hit hia ⟨cat F i (E - i) ++ r, lastD l i, false⟩ r rfl rfl (by rw [← hE]), ← hE]
  simp only
  rw [sl_cat l hiE.2 hiE.1]
theorem runP_sound (f : Nat → PR → List Pst × PR) (F : List Pst → Nat → List UInt8) (a st t : Nat) (hst : 0 < st) (hat : a ≤ t) (Q : List Pst → Prop)
  (hstep : ∀ i, a ≤ i → i < t → (i - a) % st = 0 → ∀ s, (f i s).2.bad = false → s.bad = false ∧ (f i s).1.length = min (i + st) t - i ∧ ∀ l, Q l → t ≤ l.length → agrees l i (f i s).1 → lastD l i = s.last →
   s.left = cat (F l) i (min (i + st) t - i) ++ (f i s).2.left ∧ (f i s).2.last = lastD l (min (i + st) t) ∧ ∀ j, i ≤ j → j < min (i + st) t → V1 (lastD l j) (pAt l j)) :
  ∀ k, a + k * st < t + st → ∀ s, (runP f a st k s).2.bad = false → s.bad = false ∧ (runP f a st k s).1.length = min (a + k * st) t - a ∧ ∀ l, Q l → t ≤ l.length → agrees l a (runP f a st k s).1 → lastD l a = s.last →
   s.left = cat (F l) a (min (a + k * st) t - a) ++ (runP f a st k s).2.left ∧ (runP f a st k s).2.last = lastD l (min (a + k * st) t) ∧ ∀ j, a ≤ j → j < min (a + k * st) t → V1 (lastD l j) (pAt l j)
 | 0, hk, s, h => by
  simp only [runP, Nat.zero_mul, Nat.add_zero, Nat.min_eq_left hat, Nat.sub_self, cat, List.nil_append, List.length_nil] at h ⊢
  exact ⟨h, trivial, fun l _ _ _ e => ⟨trivial, e.symm, fun j h1 h2 => by omega⟩⟩
 | k + 1, hk, s, h => by
  have e : (k + 1) * st = k * st + st := Nat.succ_mul k st
  obtain ⟨i, hi⟩ : ∃ i, i = a + k * st := ⟨_, rfl⟩
  have hia : (i - a) % st = 0 := by rw [hi, Nat.add_sub_cancel_left]; exact Nat.mul_mod_left k st
  have e2 : a + (k + 1) * st = i + st := by omega
  have hit : i < t := by omega
  have hm : min (a + k * st) t = i := by omega
  obtain ⟨E, hE⟩ : ∃ E, E = min (i + st) t := ⟨_, rfl⟩
  rw [e2, ← hE]
  have hiE : i ≤ E ∧ a ≤ i := by omega
  rw [runP, ← hi] at h ⊢
  simp only at h ⊢
  obtain ⟨q1, q2, q3⟩ := hstep i hiE.2 hit hia _ h
  obtain ⟨p1, p2, p3⟩ := runP_sound f F a st t hst hat Q hstep k (by omega) s q1
  rw [hm] at p2 p3
  rw [← hE] at q2 q3
  refine ⟨p1, by rw [List.length_append, p2, q2]; omega, fun l hQ htl hag hla => ?_⟩
  obtain ⟨p4, p5, p6⟩ := p3 l hQ htl (agrees_left hag) hla
  have hag2 := agrees_right hag
  rw [p2, show a + (i - a) = i by omega] at hag2
  obtain ⟨q4, q5, q6⟩ := q3 l hQ htl hag2 p5.symm
  have h4 : cat (F l) a (E - a) = cat (F l) a (i - a) ++ cat (F l) i (E - i) := by
   have := cat_add (F l) a (i - a) (E - i)
   rwa [show i - a + (E - i) = E - a by omega, show a + (i - a) = i by omega] at this
  refine ⟨by rw [h4, p4, q4, List.append_assoc], q5, fun j h1 h2 => ?_⟩
  rcases Nat.lt_or_ge j i with h3 | h3
  ·exact p6 j h1 h3
  ·exact q6 j h3 h2
theorem getL_split {b : List UInt8} (h : (getL b).2.2 = 0) : b = putL (getL b).1 ++ b.drop (getL b).2.1 := by
 obtain ⟨h1, h2, h3, h4, h5⟩ := getL_inv (l := b) (v := (getL b).1) (k := (getL b).2.1) (by rw [← h])
 rw [← h4, List.take_append_drop]
theorem rNum_good {s : PR} {most : Nat} (h : (rNum s most).2.bad = false) : s.bad = false ∧ s.left = putL (rNum s most).1 ++ (rNum s most).2.left ∧ (rNum s most).1 ≤ most ∧ (rNum s most).2.last = s.last := by
 unfold rNum at h ⊢
 split at h
 ·cases h
 ·rename_i h1
  have h1' : (getL s.left).2.2 = 0 := by
   rcases Decidable.em ((getL s.left).2.2 = 0) with h2 | h2
   ·exact h2
   ·exact absurd (.inl h2) h1
  rw [if_neg h1]
  exact ⟨h, getL_split h1', by
   rcases Nat.lt_or_ge most (getL s.left).1 with h2 | h2
   ·exact absurd (.inr h2) h1
   ·exact h2, rfl⟩
theorem rNum_put {s : PR} {most n : Nat} {r : List UInt8} (hn : n ≤ most) (h64 : n < 2 ^ 64) (hs : s.left = putL n ++ r) : rNum s most = (n, ⟨r, s.last, s.bad⟩) := by
 unfold rNum
 rw [hs, getL_put h64, if_neg (by simp; omega)]
 simp only
 rw [getL_drop]
theorem rRise_good {s : PR} (h : (rRise s).2.bad = false) : s.bad = false ∧ s.left = putR (rRise s).1 ++ (rRise s).2.left ∧ (rRise s).1.length ≤ 4096 ∧ rises (-1) (rRise s).1 = true ∧ (∀ x ∈ (rRise s).1, x ≤ 9223372036854775807) ∧ (rRise s).2.last = s.last := by
 unfold rRise at h ⊢
 split at h
 ·cases h
 ·rename_i h1
  have h1' : (getR s.left 4096).2.2 = 0 := by
   rcases Decidable.em ((getR s.left 4096).2.2 = 0) with h2 | h2
   ·exact h2
   ·exact absurd h2 h1
  rw [if_neg h1]
  obtain ⟨g1, g2, g3, g4, g5⟩ := getR_inv (b := s.left) (most := 4096) (l := (getR s.left 4096).1) (k := (getR s.left 4096).2.1) (by rw [← h1'])
  exact ⟨h, by simp only; rw [← g4, List.take_append_drop], by simp only; omega, g1, g2, rfl⟩
theorem rRise_put {s : PR} {l : List Int} {r : List UInt8} (hl : l.length ≤ 4096) (hr : rises (-1) l = true) (hx : ∀ x ∈ l, x ≤ 9223372036854775807) (hs : s.left = putR l ++ r) : rRise s = (l, ⟨r, s.last, s.bad⟩) := by
 unfold rRise
 rw [hs, getR_put l (by omega) hr hx r 4096 (by omega), if_neg (by simp)]
 simp only
 rw [List.drop_left]
theorem rDoc_good {s : PR} (h : (rDoc s).2.bad = false) : s.bad = false ∧ ∃ n : Nat, (rDoc s).1 = s.last + 1 + n ∧ s.left = putL n ++ (rDoc s).2.left ∧ (rDoc s).1 ≤ 4294967296 ∧ (rDoc s).2.last = s.last := by
 unfold rDoc at h ⊢
 simp only at h ⊢
 split at h
 ·cases h
 ·rename_i h1
  rw [if_neg h1]
  obtain ⟨q1, q2, q3, q4⟩ := rNum_good h
  exact ⟨q1, _, rfl, q2, by omega, q4⟩
theorem rDoc_put {s : PR} {d : Int} {r : List UInt8} (h0 : -1 ≤ s.last) (h1 : s.last < d) (h2 : d ≤ 4294967296) (hs : s.left = putL (d - s.last - 1).toNat ++ r) : rDoc s = (d, ⟨r, s.last, s.bad⟩) := by
 unfold rDoc
 rw [rNum_put (by omega) (by omega) hs]
 simp only
 rw [show s.last + 1 + ((d - s.last - 1).toNat : Int) = d by omega, if_neg (by omega)]
theorem rPost_good {s : PR} (h : (rPost s).2.bad = false) : s.bad = false ∧ ∃ x, (rPost s).1 = [x] ∧ V1 s.last x ∧ s.left = putL (x.1 - s.last - 1).toNat ++ (putR (poss x.2) ++ putR (atss x.2)) ++ (rPost s).2.left ∧ (rPost s).2.last = x.1 := by
 unfold rPost rSpots at h ⊢
 split at h
 ·cases h
 ·rename_i h1
  rw [if_neg h1]
  simp only at h ⊢
  obtain ⟨a1, a2, a3, a4, a5, a6⟩ := rRise_good h
  obtain ⟨p1, p2, p3, p4, p5, p6⟩ := rRise_good a1
  obtain ⟨d1, n, d2, d3, d4, d5⟩ := rDoc_good p1
  obtain ⟨P, hP⟩ : ∃ P, P = (rRise (rDoc s).2).1 := ⟨_, rfl⟩
  obtain ⟨A, hA⟩ : ∃ A, A = (rRise (rRise (rDoc s).2).2).1 := ⟨_, rfl⟩
  rw [← hP] at h1 p2 p3 p4 p5 ⊢
  rw [← hA] at h1 a2 a3 a4 a5 ⊢
  have hlen : P.length = A.length := by
   rcases Decidable.em (P.length = A.length) with h2 | h2
   ·exact h2
   ·exact absurd (.inr h2) h1
  have hpos : 0 < P.length := by
   rcases Nat.eq_zero_or_pos P.length with h2 | h2
   ·exact absurd (.inl h2) h1
   ·exact h2
  have e1 : poss (P.zip A) = P := by unfold poss; rw [List.map_fst_zip]; omega
  have e2 : atss (P.zip A) = A := by unfold atss; rw [List.map_snd_zip]; omega
  refine ⟨d1, _, rfl, ⟨by simp only; omega, d4, by simp only; rw [List.length_zip]; omega, by simp only; rw [List.length_zip]; omega, by rw [e1]; exact p4, by rw [e2]; exact a4, fun y hy => ⟨p5 _ (zip_in hy).1, a5 _ (zip_in hy).2⟩⟩, ?_, rfl⟩
  simp only
  rw [e1, e2, show ((rDoc s).1 - s.last - 1).toNat = n by omega, d3, p2, a2]
  simp only [List.append_assoc]
theorem rPost_put {l : List Pst} (hl : ValidP l) {i : Nat} (hi : i < l.length) {s : PR} {r : List UInt8} (hb : s.bad = false) (h1 : s.last = lastD l i) (h2 : s.left = unitB l i ++ r) : rPost s = ([pAt l i], ⟨r, (pAt l i).1, false⟩) := by
 have q1 := hl.docs _ (pAt_mem hi)
 have w1 := hl.last (Nat.le_of_lt hi)
 have u1 := hl.up i hi
 have f1 := poss_le (hl.fit _ (pAt_mem hi))
 have n1 := poss_len (pAt l i).2
 have s1 := hl.spots _ (pAt_mem hi)
 have s0 := hl.some _ (pAt_mem hi)
 unfold unitB at h2
 rw [← h1] at h2 w1 u1
 simp only [List.append_assoc] at h2
 have e1 := rDoc_put (s := s) (d := (pAt l i).1) w1.1 u1 q1.2 h2
 unfold rPost
 rw [e1]
 simp only
 have e2 := rRise_put (s := ⟨putR (poss (pAt l i).2) ++ (putR (atss (pAt l i).2) ++ r), s.last, s.bad⟩) (by omega) (hl.pos _ (pAt_mem hi)) f1.1 rfl
 rw [e2]
 simp only
 have e3 := rRise_put (s := ⟨putR (atss (pAt l i).2) ++ r, s.last, s.bad⟩) (by omega) (hl.at_ _ (pAt_mem hi)) f1.2 rfl
 rw [e3]
 unfold rSpots
 rw [if_neg (by simp only; omega)]
 simp only
 rw [zip_spots, hb]
def SoundAt (R : PR → List Pst × PR) (F : List Pst → Nat → List UInt8) (Q : List Pst → Prop) (i E : Nat) : Prop :=
 ∀ s, (R s).2.bad = false → s.bad = false ∧ (R s).1.length = E - i ∧ ∀ l, Q l → E ≤ l.length → agrees l i (R s).1 → lastD l i = s.last → s.left = cat (F l) i (E - i) ++ (R s).2.left ∧ (R s).2.last = lastD l E ∧ ∀ j, i ≤ j → j < E → V1 (lastD l j) (pAt l j)
theorem part_sound {inside : PR → List Pst × PR} {F F' : List Pst → Nat → List UInt8} {Q Q' : List Pst → Prop} {i E : Nat} (hiE : i < E) (hQ : ∀ l, Q' l → Q l) (hcat : ∀ l, Q' l → cat (F' l) i (E - i) = headB l i E (cat (F l) i (E - i)) ++ cat (F l) i (E - i))
  (hin : SoundAt inside F Q i E) : SoundAt (rPart inside) F' Q' i E := by
 intro s h
 unfold rPart rEnd at h ⊢
 simp only at h ⊢
 split at h
 ·cases h
 ·rename_i h1
  rw [if_neg h1]
  obtain ⟨q1, q2, q3⟩ := hin _ h
  obtain ⟨z1, z2, z3, z4⟩ := rNum_good q1
  obtain ⟨d1, n, d2, d3, d4, d5⟩ := rDoc_good z1
  refine ⟨d1, q2, fun l hl htl hag hla => ?_⟩
  obtain ⟨p1, p2, p3⟩ := q3 l (hQ l hl) htl hag (by rw [z4, d5]; exact hla)
  refine ⟨?_, p2, p3⟩
  obtain ⟨z, hz⟩ : ∃ z, z = rNum (rDoc s).2 (rDoc s).2.left.length := ⟨_, rfl⟩
  rw [← hz] at h1 q1 q2 q3 z2 z3 z4 p1 p2 h ⊢
  obtain ⟨q, hq⟩ : ∃ q, q = inside z.2 := ⟨_, rfl⟩
  rw [← hq] at h1 p1 p2 h ⊢
  have e1 : q.2.last = (rDoc s).1 := by
   rcases Decidable.em (q.2.last = (rDoc s).1) with h2 | h2
   ·exact h2
   ·exact absurd (.inl h2) h1
  have e2 : (q.2.left.length : Int) = (z.2.left.length : Int) - z.1 := by
   rcases Decidable.em ((q.2.left.length : Int) = (z.2.left.length : Int) - z.1) with h2 | h2
   ·exact h2
   ·exact absurd (.inr h2) h1
  have e3 := congrArg List.length p1
  rw [List.length_append] at e3
  have e4 : z.1 = (cat (F l) i (E - i)).length := by omega
  have e5 : n = ((pAt l (E - 1)).1 - lastD l i - 1).toNat := by
   have e6 : lastD l E = (pAt l (E - 1)).1 := by unfold lastD; rw [if_neg (by omega)]
   omega
  rw [hcat l hl, headB, ← e4, ← e5, d3, z2, p1]
  simp only [List.append_assoc]
theorem part_comp {inside : PR → List Pst × PR} {l : List Pst} (hV : ValidP l) {F F' : Nat → List UInt8} {i E : Nat} (hiE : i < E) (hE : E ≤ l.length) (hcat : cat F' i (E - i) = headB l i E (cat F i (E - i)) ++ cat F i (E - i)) (hb : (cat F i (E - i)).length < 2 ^ 64)
  (hin : ∀ s r, s.bad = false → s.last = lastD l i → s.left = cat F i (E - i) ++ r → inside s = (sl l i E, ⟨r, lastD l E, false⟩)) :
  ∀ s r, s.bad = false → s.last = lastD l i → s.left = cat F' i (E - i) ++ r → rPart inside s = (sl l i E, ⟨r, lastD l E, false⟩) := by
 intro s r h1 h2 h3
 have w1 := hV.last (show i ≤ l.length by omega)
 have w2 := hV.last_lt hiE hE
 have w3 := (hV.docs _ (pAt_mem (show E - 1 < l.length by omega))).2
 have e6 : lastD l E = (pAt l (E - 1)).1 := by unfold lastD; rw [if_neg (by omega)]
 rw [hcat, headB] at h3
 simp only [List.append_assoc] at h3
 rw [← h2] at h3 w1 w2
 obtain ⟨B, hB⟩ : ∃ B, B = cat F i (E - i) := ⟨_, rfl⟩
 rw [← hB] at h3 hb hin
 have g1 := rDoc_put (s := s) w1.1 w2 w3 h3
 unfold rPart rEnd
 rw [g1]
 simp only
 rw [rNum_put (n := B.length) (r := B ++ r) (by rw [List.length_append, List.length_append]; omega) hb rfl]
 simp only
 rw [hin ⟨B ++ r, s.last, s.bad⟩ r h1 h2 rfl]
 simp only
 rw [if_neg]
 rw [e6, List.length_append]
 omega
theorem run0_sound (a t : Nat) (hat : a ≤ t) : SoundAt (run0 a t) unitB (fun _ => True) a t := by
 intro s h
 have := runP_sound (fun _ => rPost) unitB a 1 t (by omega) hat (fun _ => True) (fun i h1 h2 _ s h => ?_) (t - a) (by omega) s h
 ·rw [show min (a + (t - a) * 1) t = t by omega] at this
  exact this
 ·obtain ⟨q1, x, q2, q3, q4, q5⟩ := rPost_good h
  have e : min (i + 1) t = i + 1 := by omega
  rw [e]
  refine ⟨q1, by rw [q2]; simp, fun l _ htl hag hla => ?_⟩
  rw [q2] at hag
  have hx : pAt l i = x := hag 0 (by simp)
  rw [show i + 1 - i = 0 + 1 by omega, cat, cat, List.nil_append, Nat.add_zero]
  refine ⟨?_, ?_, fun j h1 h2 => ?_⟩
  ·rw [q4]
   unfold unitB
   rw [hx, hla]
  ·rw [q5, lastD_succ, hx]
  ·obtain rfl : j = i := by omega
   rw [hx, hla]
   exact q3
theorem run0_comp {l : List Pst} (hV : ValidP l) (a t : Nat) (hat : a ≤ t) (ht : t ≤ l.length) (s : PR) (r : List UInt8) (h1 : s.bad = false) (h2 : s.last = lastD l a) (h3 : s.left = cat (unitB l) a (t - a) ++ r) : run0 a t s = (sl l a t, ⟨r, lastD l t, false⟩) := by
 have e : min (a + (t - a) * 1) t = t := by omega
 have := runP_comp (fun _ => rPost) l (unitB l) a 1 t (by omega) hat (fun i q1 q2 _ s r p1 p2 p3 => ?_) (t - a) (by omega) s r h1 h2 (by rw [e]; exact h3)
 ·rw [e] at this
  exact this
 ·have e2 : min (i + 1) t = i + 1 := by omega
  rw [e2] at p3 ⊢
  rw [show i + 1 - i = 0 + 1 by omega, cat, cat, List.nil_append, Nat.add_zero] at p3
  show rPost s = _
  rw [rPost_put hV (by omega) p1 p2 p3, sl_one (by omega), lastD_succ]
theorem run1_sound (a t : Nat) (hat : a ≤ t) (ha : a % 16 = 0) (ht16 : t ≤ a + 16) : SoundAt (run1 a t) linB (fun l => min l.length (a + 16) = t) a t := by
 intro s h
 have hk : min (a + (t - a + 3) / 4 * 4) t = t := by omega
 have := runP_sound (fun i => rPart (run0 i (min (i + 4) t))) linB a 4 t (by omega) hat (fun l => min l.length (a + 16) = t) (fun i h1 h2 h4 s h => ?_) ((t - a + 3) / 4) (by omega) s h
 ·rw [hk] at this
  exact this
 ·obtain ⟨E, hE⟩ : ∃ E, E = min (i + 4) t := ⟨_, rfl⟩
  rw [← hE] at h ⊢
  have hS := part_sound (inside := run0 i E) (F := unitB) (F' := linB) (Q := fun _ => True) (Q' := fun l => min l.length (a + 16) = t) (i := i) (E := E) (by omega) (fun _ _ => trivial) (fun l hl => ?_) (run0_sound i E (by omega)) s h
  ·exact ⟨hS.1, hS.2.1, fun l hl htl => hS.2.2 l hl (by omega)⟩
  ·rw [cat_block l (by omega) (by omega) (by omega), blockB, show min l.length (i + 4) = E by omega]
theorem run1_comp {l : List Pst} (hV : ValidP l) (a t : Nat) (hat : a ≤ t) (ha : a % 16 = 0) (ht : t = min l.length (a + 16)) (s : PR) (r : List UInt8) (h1 : s.bad = false) (h2 : s.last = lastD l a) (h3 : s.left = cat (linB l) a (t - a) ++ r) : run1 a t s = (sl l a t, ⟨r, lastD l t, false⟩) := by
 have hf := hV.few
 have e : min (a + (t - a + 3) / 4 * 4) t = t := by omega
 have := runP_comp (fun i => rPart (run0 i (min (i + 4) t))) l (linB l) a 4 t (by omega) hat (fun i q1 q2 q4 s r p1 p2 p3 => ?_) ((t - a + 3) / 4) (by omega) s r h1 h2 (by rw [e]; exact h3)
 ·rw [e] at this
  exact this
 ·obtain ⟨E, hE⟩ : ∃ E, E = min (i + 4) t := ⟨_, rfl⟩
  rw [← hE] at p3 ⊢
  have hu := units_len hV (i := i) (k := E - i) (by omega)
  have : 90000 * (E - i) ≤ 90000 * 4096 := Nat.mul_le_mul_left _ (by omega)
  exact part_comp hV (by omega) (by omega) (by rw [cat_block l (by omega) (by omega) (by omega), blockB, show min l.length (i + 4) = E by omega]) (by omega) (fun s r => run0_comp hV i E (by omega) (by omega) s r) s r p1 p2 p3
theorem run2_sound (t : Nat) : SoundAt (run2 0 t) lin (fun l => l.length = t) 0 t := by
 intro s h
 have hk : min (0 + (t - 0 + 15) / 16 * 16) t = t := by omega
 have := runP_sound (fun i => rPart (run1 i (min (i + 16) t))) lin 0 16 t (by omega) (by omega) (fun l => l.length = t) (fun i h1 h2 h4 s h => ?_) ((t - 0 + 15) / 16) (by omega) s h
 ·rw [hk] at this
  exact this
 ·obtain ⟨E, hE⟩ : ∃ E, E = min (i + 16) t := ⟨_, rfl⟩
  rw [← hE] at h ⊢
  have hS := part_sound (inside := run1 i E) (F := linB) (F' := lin) (Q := fun l => min l.length (i + 16) = E) (Q' := fun l => l.length = t) (i := i) (E := E) (by omega) (fun l hl => by omega) (fun l hl => ?_) (run1_sound i E (by omega) (by omega) (by omega)) s h
  ·exact ⟨hS.1, hS.2.1, fun l hl htl => hS.2.2 l hl (by omega)⟩
  ·rw [cat_group l (by omega) (by omega) (by omega), groupB, show min l.length (i + 16) = E by omega]
theorem run2_comp {l : List Pst} (hV : ValidP l) (t : Nat) (ht : t = l.length) (s : PR) (r : List UInt8) (h1 : s.bad = false) (h2 : s.last = lastD l 0) (h3 : s.left = cat (lin l) 0 t ++ r) : run2 0 t s = (l, ⟨r, lastD l t, false⟩) := by
 have hf := hV.few
 have e : min (0 + (t - 0 + 15) / 16 * 16) t = t := by omega
 have := runP_comp (fun i => rPart (run1 i (min (i + 16) t))) l (lin l) 0 16 t (by omega) (by omega) (fun i q1 q2 q4 s r p1 p2 p3 => ?_) ((t - 0 + 15) / 16) (by omega) s r h1 h2 (by rw [e]; exact h3)
 ·rw [e, ht, sl_all, ← ht] at this
  exact this
 ·obtain ⟨E, hE⟩ : ∃ E, E = min (i + 16) t := ⟨_, rfl⟩
  rw [← hE] at p3 ⊢
  have hu := linBs_len hV (i := i) (k := E - i) (by omega)
  have : 90020 * (E - i) ≤ 90020 * 4096 := Nat.mul_le_mul_left _ (by omega)
  exact part_comp hV (by omega) (by omega) (by rw [cat_group l (by omega) (by omega) (by omega), groupB, show min l.length (i + 16) = E by omega]) (by omega) (fun s r => run1_comp hV i E (by omega) (by omega) (by omega) s r) s r p1 p2 p3
theorem V1_valid {l : List Pst} (hf : l.length ≤ 4096) (h : ∀ j, j < l.length → V1 (lastD l j) (pAt l j)) : ValidP l := by
 have low : ∀ j, j ≤ l.length → -1 ≤ lastD l j := by
  intro j
  induction j with
  | zero => intro _; unfold lastD; rw [if_pos rfl]; omega
  | succ j ih =>
   intro hj
   have h1 := ih (by omega)
   have h2 := (h j (by omega)).1
   rw [lastD_succ]
   omega
 have at1 : ∀ x ∈ l, ∃ i, i < l.length ∧ pAt l i = x := fun x hx => pAt_of hx
 exact {
  few := hf
  spots := fun x hx => by obtain ⟨i, hi, rfl⟩ := at1 x hx; exact (h i hi).2.2.2.1
  some := fun x hx => by obtain ⟨i, hi, rfl⟩ := at1 x hx; exact (h i hi).2.2.1
  docs := fun x hx => by obtain ⟨i, hi, rfl⟩ := at1 x hx; exact ⟨by have := (h i hi).1; have := low i (by omega); omega, (h i hi).2.1⟩
  up := fun i hi => (h i hi).1
  pos := fun x hx => by obtain ⟨i, hi, rfl⟩ := at1 x hx; exact (h i hi).2.2.2.2.1
  at_ := fun x hx => by obtain ⟨i, hi, rfl⟩ := at1 x hx; exact (h i hi).2.2.2.2.2.1
  fit := fun x hx => by obtain ⟨i, hi, rfl⟩ := at1 x hx; exact (h i hi).2.2.2.2.2.2 }
theorem getM_is (b : List UInt8) : getM b = getP b := by
 unfold getM
 by_cases hc : (rAll b).2.bad = true ∨ 0 < (rAll b).2.left.length
 ·rw [if_pos hc]
  rcases getP_err b with h | h
  ·exfalso
   obtain ⟨h1, h2⟩ := getP_some h
   have hV := (check_ok getP_fit).1 h1
   obtain ⟨l, hl⟩ : ∃ l, l = (getP b).1 := ⟨_, rfl⟩
   rw [← hl] at hV h2
   have hf := hV.few
   have e1 : rNum (rStart b) 4096 = (l.length, ⟨cat (lin l) 0 l.length, -1, false⟩) := rNum_put (s := rStart b) (n := l.length) hf (by omega) h2.symm
   have e2 : rAll b = (l, ⟨[], lastD l l.length, false⟩) := by
    unfold rAll
    rw [e1]
    exact run2_comp hV l.length rfl _ [] rfl rfl (by simp)
   rw [e2] at hc
   simp at hc
  ·exact h.symm
 ·rw [if_neg hc]
  have hb : (rAll b).2.bad = false := by
   cases h : (rAll b).2.bad with
   | false => rfl
   | true => exact absurd (.inl h) hc
  have hl : (rAll b).2.left = [] := by
   rcases Nat.eq_zero_or_pos (rAll b).2.left.length with h | h
   ·exact List.eq_nil_of_length_eq_zero h
   ·exact absurd (.inr h) hc
  obtain ⟨q1, q2, q3⟩ := run2_sound (rNum (rStart b) 4096).1 (rNum (rStart b) 4096).2 hb
  obtain ⟨n1, n2, n3, n4⟩ := rNum_good q1
  have q8 : (rAll b).1.length = (rNum (rStart b) 4096).1 := by unfold rAll; omega
  obtain ⟨q5, q6, q7⟩ := q3 (rAll b).1 q8 (by omega) (fun j _ => by rw [Nat.zero_add]; rfl) (by rw [n4]; rfl)
  have hV : ValidP (rAll b).1 := V1_valid (by omega) fun j hj => q7 j (by omega) (by omega)
  have hput : putP (rAll b).1 = b := by
   have e2 : (run2 0 (rNum (rStart b) 4096).1 (rNum (rStart b) 4096).2).2.left = [] := hl
   rw [e2, List.append_nil, Nat.sub_zero] at q5
   have e3 : b = putL (rNum (rStart b) 4096).1 ++ (rNum (rStart b) 4096).2.left := n2
   unfold putP
   rw [q8]
   exact ((congrArg (putL (rNum (rStart b) 4096).1 ++ ·) q5).symm.trans e3.symm)
  have := getP_put hV
  rw [hput] at this
  exact this.symm
end Go.Proofs.YthcjikpabpgpfaaGreat
namespace Go.Proofs.YthcjikpabpgpfaaGreat
open Go.RowKit Go.Maps Go.WideMaps
theorem lGetRising_any (w : World) (A : Option Addr) (n c : Nat) (l : Nm) (hl : BytesIn w A n l) (hc : n ≤ c) (hn : n ≤ 1099511627776) (most : Int) (hm1 : -9223372036854775808 ≤ most) (hm2 : most ≤ 9223372036854775807) :
  Calls Tryz.prog 217 #[.slice A n c, .int .i64 most] w (GetROut w (getR l most)) := by
 obtain ⟨i0, hi, hz0, hz1, hz2⟩ := info_parts intInfo64
 have HL := Lib.hid hl
 have hln : l.length = n := by have := hl.2.1.len; simpa using this
 have HLN := Lib.hid hln
 clear hl hln
 go_enter Tryz.func217, Tryz.ntmps217
 go_wp2
 go_step3
 go_wp2_with fail
 refine (lGet_any w A n c l HL.out).mono ?_
 rintro e w1 ⟨rfl, hw⟩
 rw [hw]
 clear hw
 unfold gotV
 obtain ⟨G, hG⟩ : ∃ G, G = getL l := ⟨_, rfl⟩
 rw [← hG]
 obtain ⟨many, at0', e0⟩ := G
 by_cases he : e0 = 0
 ·subst he
  have hg := getL_inv hG.symm
  obtain ⟨g1, g2, g3, g4, g5⟩ := hg
  by_cases hm : most < 0 ∨ most < (many : Int)
  ·have hres : getR l most = ([], 0, 2) := by
    unfold getR
    rw [← hG]
    simp only
    rw [if_neg (by simp), if_pos hm]
   have HRES := Lib.hid hres
   have HG := Lib.hid hG
   have hd := decide_eq_true hm
   clear hG hres g4
   go_wp2_with fail
   refine (lOver_any w many most hm1 hm2).mono ?_
   rintro e w1 ⟨rfl, hw⟩
   rw [hw, hd]
   clear hw hd hm
   go_wp2
   try rw [Exit.noGoto_ret]
   go_ret3
   exact gerr HRES.out (Below.refl _ _)
  have hres : getR l most = getRAux many (-1) at0' (l.drop at0') [] := by
   unfold getR
   rw [← hG]
   simp only
   rw [if_neg (by simp), if_neg hm]
  have HRES := Lib.hid hres
  have HG := Lib.hid hG
  have hd := decide_eq_false hm
  clear hG hres g4 hm
  have g3n : at0' ≤ n := by rw [← HLN.out]; exact g3
  go_wp2_with fail
  refine (lOver_any w many most hm1 hm2).mono ?_
  rintro e w1 ⟨rfl, hw⟩
  rw [hw, hd]
  clear hw hd
  go_wp2
  go_step3
  go_wp2
  go_loopw [8, 9, 10, 11, 28] (fun a er v s i wr => ∃ (k at_ least : Nat) (acc : List Int), k ≤ many ∧ a = .int .i64 at_ ∧ er = .int .i64 0 ∧ s = .int .u64 least ∧ i = .int .u64 k ∧ at_ ≤ n ∧ least ≤ 9223372036854775808 ∧ acc.length = k ∧ k < at_ ∧
   getRAux (many - k) ((least : Int) - 1) at_ (l.drop at_) acc = getR l most ∧ Below w.heap.size w wr ∧ wr.ownsRow w.heap.size 2 1 v acc.length (acc.map i64V)) (fun _ _ _ _ i _ => many - (intOf i).toNat)
  case atStart => exact ⟨0, at0', 0, [], by omega, rfl, rfl, rfl, rfl, g3n, by omega, rfl, g1, by rw [HRES.out]; rfl, Below.refl _ _, ⟨rfl, .inl ⟨rfl, rfl⟩⟩⟩
  case round =>
   obtain ⟨k, at_, least, acc, hk, rfl, rfl, rfl, rfl, hat, hlast, hacc, hkat, hgr, hB, hO⟩ := hrel
   have HGR := Lib.hid hgr
   have HB := Lib.hid hB
   have HO := Lib.hid hO
   have HACC := Lib.hid hacc
   clear hgr hB hO hacc
   obtain ⟨Av, cv, hv⟩ := own_slice HO.out
   subst hv
   rcases Nat.lt_or_ge k many with hlt | hge
   ·have hlt' : (k : Int) < (many : Int) := by omega
    have s1 : ∀ w, (Instr.slice 24 (.slice A n c) (some (.int .i64 at_)) none none).run Tryz.prog w = .ok (.slice (cutAddr A at_ c) (n - at_) (c - at_)) w := fun w => slice_from w A n c at_ hat
    have hsub := (HL.out.below HB.out).sub hc at_ n hat (Nat.le_refl _)
    rw [show (l.take n).drop at_ = l.drop at_ by rw [List.take_of_length_le (by rw [HLN.out]; exact Nat.le_refl _)]] at hsub
    have HSUB := Lib.hid hsub
    clear hsub
    obtain ⟨v, j, e, hg⟩ : ∃ v j e, getL (l.drop at_) = (v, j, e) := ⟨_, _, _, rfl⟩
    obtain ⟨m, hm⟩ : ∃ m, many - k = m + 1 := ⟨many - k - 1, by omega⟩
    have hstep := HGR.out
    rw [hm] at hstep
    simp only [getRAux, hg] at hstep
    have HSTEP := Lib.hid hstep
    have HGG := Lib.hid hg
    have HM := Lib.hid hm
    clear hstep hg hm
    go_wp2_with fail
    refine (lGet_any wr (cutAddr A at_ c) (n - at_) (c - at_) (l.drop at_) HSUB.out).mono ?_
    rintro e2 w2 ⟨rfl, hw⟩
    rw [hw, HGG.out]
    clear hw
    unfold gotV
    by_cases he : e = 0
    ·subst he
     have hgi := getL_inv HGG.out
     obtain ⟨q1, q2, q3, q4, q5⟩ := hgi
     rw [List.length_drop, HLN.out] at q3
     clear q4
     have hstep := HSTEP.out
     rw [if_neg (by simp)] at hstep
     have hj : IntKind.i64.wrap ((at_ : Int) + (j : Int)) = ((at_ + j : Nat) : Int) := by rw [IntWalk.i64_in _ (by omega)]; simp
     obtain ⟨at2, hat2⟩ : ∃ a, a = at_ + j := ⟨_, rfl⟩
     rw [← hat2] at hj
     obtain ⟨T, hT⟩ : ∃ T : Nat, T = 9223372036854775808 - least := ⟨_, rfl⟩
     have hTz : IntKind.u64.wrap (9223372036854775808 - (least : Int)) = (T : Int) := by rw [IntKind.wrap_u64]; omega
     by_cases hov : T ≤ v
     ·have hovz : (T : Int) ≤ (v : Int) := by omega
      rw [if_pos (by omega)] at hstep
      have HS := Lib.hid hstep
      clear hstep hT hat2
      go_wp2
      try rw [Exit.noGoto_ret]
      go_ret3
      exact gerr HS.out.symm HB.out
     ·have hovz : ¬ (T : Int) ≤ (v : Int) := by omega
      rw [if_neg (by omega)] at hstep
      obtain ⟨z, hz⟩ : ∃ z : Nat, z = least + v := ⟨_, rfl⟩
      obtain ⟨v1, hv1⟩ : ∃ u : Nat, u = v + 1 := ⟨_, rfl⟩
      obtain ⟨z1, hz1'⟩ : ∃ u : Nat, u = z + 1 := ⟨_, rfl⟩
      have hv1z : IntKind.u64.wrap ((v : Int) + 1) = (v1 : Int) := by rw [IntKind.wrap_u64]; omega
      have hzz : IntKind.u64.wrap ((least : Int) + (v : Int)) = (z : Int) := by rw [IntKind.wrap_u64]; omega
      have hz1z : IntKind.u64.wrap ((least : Int) + (v1 : Int)) = (z1 : Int) := by rw [IntKind.wrap_u64]; omega
      have hzi : IntKind.i64.wrap (z : Int) = (z : Int) := IntWalk.i64_in _ (by omega)
      have hzm : z1 ≤ 9223372036854775808 := by omega
      have hat2n : at2 ≤ n := by omega
      have hka2 : k + 1 < at2 := by omega
      rw [show (least : Int) - 1 + (v : Int) + 1 = (z : Int) by omega, List.drop_drop, ← hat2] at hstep
      have hzb : (z1 : Int) - 1 = (z : Int) := by omega
      have HS := Lib.hid hstep
      have HZB := Lib.hid hzb
      have hal : acc.length ≤ 1099511627776 := by have := HACC.out; omega
      clear hstep hT hat2 hz hv1 hz1' hzb
      go_wp2_with (at_builtin; refine wpList_append_src _ rfl (.tmp 47) (.tmp 52) 196 rfl w.heap.size 2 i0 (.int .i64 0) 8 Tryz.underlying196 hi hz0 hz1 hz2 rfl _ acc.length _ rfl (World.ownsRow.alloc HO.out _) _ 1 1 _ rfl (one_int_src wr 2 z) (i64V_one [(z : Int)]) (by unfold maxLen; omega) (by omega) (by have := HB.out.size; simp; omega) ?_; intro v3 w3 hown hgrow _; have HO3 := Lib.hid hown; have HB3 := Lib.hid ((HB.out.alloc HB.out.size _).grown hgrow (by have := HB.out.size; simp; omega) (fun g hg => (HO.out.lt g hg).1)); clear hown hgrow)
      go_roundw
      case rel =>
       refine ⟨k + 1, at2, z1, acc ++ [(z : Int)], by omega, rfl, rfl, rfl, by go_num, by omega, by omega, by rw [List.length_append, HACC.out]; rfl, by omega, ?_, HB3.out, ?_⟩
       ·rw [HZB.out, show many - (k + 1) = m by have := HM.out; omega]
        exact HS.out
       ·rw [List.length_append, List.map_append]
        exact HO3.out
      case measure => simp [intOf]; omega
    ·have hstep := HSTEP.out
     rw [if_pos he] at hstep
     have HS := Lib.hid hstep
     have d1 : (e != 0) = true := by simpa using he
     clear hstep he
     go_wp2
     try rw [Exit.noGoto_ret]
     go_ret3
     exact gerr HS.out.symm HB.out
   ·obtain rfl : k = many := by omega
    have hlz : ¬ ((k : Int) < (k : Int)) := by omega
    have hfin : getR l most = (acc, at_, 0) := by
     have := HGR.out
     rw [Nat.sub_self] at this
     exact this.symm
    have HF := Lib.hid hfin
    clear hfin
    go_wp2
    try rw [Exit.noGoto_ret]
    go_ret3
    exact gok HF.out HB.out HO.out
 ·have hres : getR l most = ([], 0, e0) := by
   unfold getR
   rw [← hG]
   simp only
   rw [if_pos he]
  have HRES := Lib.hid hres
  have HG := Lib.hid hG
  clear hG hres
  go_wp2
  try rw [Exit.noGoto_ret]
  go_ret3
  exact gerr HRES.out (Below.refl _ _)
theorem append_srcNP {P : Program} (w : World) (base : Nat) (t ty e : TypeId) (i : TypeInfo) (z : Value) (size bytes : Nat) (ht : P.underlying t = some (.slice e)) (hi : P.info? e = some i) (hz : i.zero = some z)
  (hsize : i.size = size) (hby : i.bytes = bytes) (hzs : z.cells.size = size) (hsz : 0 < size) (v : Value) (n : Nat) (xs : List Value) (hown : w.ownsRow base e size v n xs)
  (A : Option Addr) (m c : Nat) (news : List Value) (hl : news.length = m * size) (hc : ∀ ad, A = some ad → ∀ j u, news[j]? = some u → w.cell? (ad.add j) = some u) (hn : A = none → m = 0) (h1 : ∀ u ∈ news, u.oneCell' = true)
  (h63 : n + m ≤ maxLen) (hbytes : (n + m) * bytes ≤ 140737488355328) (hbase : base ≤ w.heap.size) :
  ∃ v' w', (Builtin.append_ #[t, t] ty #[v, .slice A m c]).run P w = .ok v' w' ∧ w'.ownsRow base e size v' (n + m) (xs ++ news) ∧ w.grownBy w' v.ownBlock ∧
   (v'.ownBlock = v.ownBlock ∨ v'.ownBlock = some w.heap.size) := by
 cases A with
 | none =>
  have hm := hn rfl
  subst hm
  have hn : news = [] := List.eq_nil_of_length_eq_zero (by rw [hl, Nat.zero_mul])
  subst hn
  refine ⟨v, w, ?_, by simpa using hown, World.grownBy.refl w _, .inl rfl⟩
  rcases hown.2 with ⟨rfl, rfl⟩ | ⟨g, cap, cur, rfl, _, _, hnc, _⟩
  ·simp [Builtin.append_, run_underlying ht, sizeOf, typeInfo, hi, Builtin.lenOf, Builtin.firstCells]
  ·simp [Builtin.append_, run_underlying ht, sizeOf, typeInfo, hi, Builtin.lenOf, Builtin.firstCells, hnc, storeCells]
 | some ad =>
  obtain ⟨v', w', hrun, h2, h3, _, h5⟩ := run_append_own_at (P := P) w base t ty e i z size bytes ht hi hz hsize hby hzs hsz v n xs hown ad m c news hl (hc ad rfl) h1 h63 hbytes hbase
  exact ⟨v', w', hrun, h2, h3, h5⟩
theorem wpList_append_srcN {P : Program} (w : World) {ops : Array Oper} {rest : List Oper} {o : Oper} {a : Act} {Q : Exit → Act → World → Prop} (hgd : o.guard = none) (s x : Operand) (t : TypeId)
  (ho : o.op = .call { callee := .builtin .append, args := #[s, x], argTypes := #[t, t] })
  (base : Nat) (e : TypeId) (i : TypeInfo) (z : Value) (size bytes : Nat) (ht : P.underlying t = some (.slice e)) (hi : P.info? e = some i) (hz : i.zero = some z)
  (hsize : i.size = size) (hby : i.bytes = bytes) (hzs : z.cells.size = size) (hsz : 0 < size)
  (v : Value) (n : Nat) (xs : List Value) (hs : a.eval s = v) (hown : w.ownsRow base e size v n xs)
  (A : Option Addr) (m c : Nat) (news : List Value) (hx : a.eval x = .slice A m c) (hl : news.length = m * size) (hc : ∀ ad, A = some ad → ∀ j u, news[j]? = some u → w.cell? (ad.add j) = some u) (hn : A = none → m = 0) (h1 : ∀ u ∈ news, u.oneCell' = true)
  (h63 : n + m ≤ maxLen) (hbytes : (n + m) * bytes ≤ 140737488355328) (hbase : base ≤ w.heap.size)
  (h : ∀ v' w', w'.ownsRow base e size v' (n + m) (xs ++ news) → w.grownBy w' v.ownBlock → (v'.ownBlock = v.ownBlock ∨ v'.ownBlock = some w.heap.size) → wpList P ops Q rest (a.put o.dst v') w') : wpList P ops Q (o :: rest) a w := by
 refine wpList_plain hgd fun K hK => ?_
 obtain ⟨v', w', hrun, h2, h3, h4⟩ := append_srcNP (P := P) w base t o.type e i z size bytes ht hi hz hsize hby hzs hsz v n xs hown A m c news hl hc hn h1 h63 hbytes hbase
 unfold Oper.wp execOp
 simp only [ho, resolve, invoke, builtin, Sem.run_bind, Sem.run_pure, Result.andThen_ok, List.map_toArray, List.map_cons, List.map_nil, hs, hx, hrun]
 exact hK _ _ (h v' w' h2 h3 h4)
theorem own_cells {w : World} {base size n c : Nat} {e : TypeId} {A : Option Addr} {xs : List Value} (h : w.ownsRow base e size (.slice A n c) n xs) : (∀ ad, A = some ad → ∀ j u, xs[j]? = some u → w.cell? (ad.add j) = some u) ∧ (A = none → n = 0) := by
 constructor
 ·intro ad e1 j u hu
  subst e1
  have hz : ad = ⟨ad.block, 0, none⟩ := by
   rcases h.2 with ⟨h1, _⟩ | ⟨g, cap, cur, h1, _⟩
   ·cases h1
   ·cases h1; rfl
  have := h.cells (g := ad.block) rfl j u hu
  rw [hz]
  exact this
 ·intro e1
  rcases h.2 with ⟨_, h0⟩ | ⟨g, cap, cur, h1, _⟩
  ·exact h0
  ·rw [e1] at h1; cases h1
theorem docs_one {w : World} {S : List (Int × Value)} {M : List (Int × List (Int × Int))} {far : Nat → Prop} (hl : S.length = M.length) (h2 : ∀ (i : Nat) (p : Int × Value) (x : Int × List (Int × Int)), S[i]? = some p → M[i]? = some x → PostAt w x p far) : ∀ u ∈ S.flatMap docCells, u.oneCell' = true := by
 intro u hu
 obtain ⟨p, hp, hup⟩ := List.mem_flatMap.1 hu
 obtain ⟨i, hi⟩ := List.getElem?_of_mem hp
 have hlt := (List.getElem?_eq_some_iff.1 hi).1
 obtain ⟨_, _, A, c, e, _⟩ := h2 i p _ hi (List.getElem?_eq_getElem (by omega : i < M.length))
 obtain ⟨d, sv⟩ := p
 simp only at e
 subst e
 exact doc_one _ _ _ _ u hup
theorem PostsO.le {w : World} {base base' : Nat} {v : Value} {L : List (Int × List (Int × Int))} (h : PostsO w base v L) (hb : base' ≤ base) : PostsO w base' v L := by
 obtain ⟨R, h0, h1, h2⟩ := h
 exact ⟨R, h0, rowBase_le h1 hb, fun i p x e1 e2 => (h2 i p x e1 e2).mono (fun i _ hf => ⟨rfl, Nat.le_trans hb hf.1, hf.2⟩) (Nat.le_refl _)⟩
theorem PostsO.cat {w w' : World} {base base2 : Nat} {v v' v2 : Value} {L M : List (Int × List (Int × Int))} {R S : List (Int × Value)} (hb : base ≤ base2) (hvb : ∀ g, v.ownBlock = some g → g < base2) (h0 : R.length = L.length) (k0 : S.length = M.length)
  (h2 : ∀ (i : Nat) (p : Int × Value) (x : Int × List (Int × Int)), R[i]? = some p → L[i]? = some x → PostAt w x p fun i => base ≤ i ∧ v.ownBlock ≠ some i)
  (k2 : ∀ (i : Nat) (p : Int × Value) (x : Int × List (Int × Int)), S[i]? = some p → M[i]? = some x → PostAt w x p fun i => base2 ≤ i ∧ v2.ownBlock ≠ some i)
  (ho : w'.ownsRow base 62 2 v' (L.length + M.length) (R.flatMap docCells ++ S.flatMap docCells)) (hg : w.grownBy w' v.ownBlock) (hloc : v'.ownBlock = v.ownBlock ∨ v'.ownBlock = some w.heap.size) : PostsO w' base v' (L ++ M) := by
 have keep : ∀ {y q}, PostAt w y q (fun i => base ≤ i ∧ v.ownBlock ≠ some i) → PostAt w' y q fun i => base ≤ i ∧ v'.ownBlock ≠ some i := fun h => h.mono (fun i hi hf => ⟨hg.block i hi (fun e => hf.2 e.symm), hf.1, by
  rcases hloc with e | e
  ·rw [e]; exact hf.2
  ·rw [e]
   intro e2
   have : w.heap.size = i := Option.some.inj e2
   omega⟩) hg.size
 refine ⟨R ++ S, by simp [h0, k0], by simpa using ho, fun i q y e1 e2 => ?_⟩
 rcases Nat.lt_or_ge i L.length with hi | hi
 ·rw [List.getElem?_append_left (by omega)] at e1 e2
  exact keep (h2 i q y e1 e2)
 ·rw [List.getElem?_append_right (by omega)] at e1 e2
  rw [h0] at e1
  exact keep ((k2 _ q y e1 e2).mono (fun j _ hf => ⟨rfl, by omega, fun e => by have := hvb j e; omega⟩) (Nat.le_refl _))
end Go.Proofs.YthcjikpabpgpfaaGreat
namespace Go.Proofs.YthcjikpabpgpfaaGreat
open Go.RowKit Go.Maps Go.WideMaps Go.Shelf
structure IsPR (w : World) (r : Nat) (s : PR) : Prop where
 at_ : ∃ A n c, Blk w r 243 #[.slice A n c, .int .i64 s.last, .bool s.bad] ∧ BytesIn w A n s.left ∧ n ≤ c ∧ n ≤ 1099511627776 ∧ ∀ ad, A = some ad → 0 < n → ad.block < r
 low : -1 ≤ s.last
 high : s.last ≤ 4294967296
theorem IsPR.lt {w : World} {r : Nat} {s : PR} (h : IsPR w r s) : r < w.heap.size := by obtain ⟨A, n, c, h1, _⟩ := h.at_; exact h1.lt
theorem IsPR.below {w w' : World} {r : Nat} {s : PR} (h : IsPR w r s) (hb : Below w.heap.size w w') : IsPR w' r s := by
 obtain ⟨A, n, c, h1, h2, h3, h4, h5⟩ := h.at_
 exact ⟨⟨A, n, c, h1.below hb h1.lt, h2.below hb, h3, h4, h5⟩, h.low, h.high⟩
theorem IsPR.grown {w w' : World} {r : Nat} {s : PR} {row : Option Nat} (h : IsPR w r s) (hg : w.grownBy w' row) (hr : ∀ g, row = some g → r < g) : IsPR w' r s := by
 obtain ⟨A, n, c, h1, h2, h3, h4, h5⟩ := h.at_
 exact ⟨⟨A, n, c, h1.grown hg (fun e => by have := hr r e.symm; omega), ⟨h2.1, h2.2.1.keep fun ad e h0 => hg.block _ (h2.2.2 ad e h0) (fun e2 => by have := hr _ e2.symm; have := h5 ad e h0; omega), fun ad e h0 => Nat.lt_of_lt_of_le (h2.2.2 ad e h0) hg.size⟩, h3, h4, h5⟩, h.low, h.high⟩
theorem kept_set {r : Nat} {a w : World} (h : Kept (fun i => i = r) a w) (i : Nat) (u : Value) : Kept (fun i => i = r) a (w.setCell ⟨r, i, none⟩ u) := h.setCell (p := ⟨r, i, none⟩) (.inl rfl) u
theorem kept_then {r : Nat} {a b c : World} (h : Kept (fun i => i = r) a b) (k : Kept (fun i => i = r) b c) : Kept (fun i => i = r) a c := h.trans k (fun _ _ h => h)
theorem gFail_any (w : World) (r : Nat) (s : PR) (h : IsPR w r s) : Calls Tryz.prog 198 #[at0 r] w fun e w' => e = .returned (.tuple #[]) ∧ IsPR w' r s.fail ∧ Kept (fun i => i = r) w w' := by
 obtain ⟨A, n, c, h1, h2, h3, h4, h5⟩ := h.at_
 have HB := Lib.hid h1
 have hl := h.low
 have hh := h.high
 have c0 := h1.cell 0
 have c2 := h1.cell 2
 have z0 := h1.frozen 0
 have z2 := h1.frozen 2
 simp at c0 c2
 clear h h1 h2
 unfold at0
 go_enter Tryz.func198, Tryz.ntmps198
 go_wp2
 go_end0
 have e1 := (HB.out.set_ 0 (.slice none 0 0)).set_ 2 (.bool true)
 refine ⟨rfl, ⟨⟨none, 0, 0, by simpa [PR.fail] using e1, BytesIn.nil _, by omega, by omega, fun ad e => by cases e⟩, hl, hh⟩, ?_⟩
 exact kept_set (kept_set (Kept.refl _ w) 0 _) 2 _
theorem gNumber_any (w : World) (r : Nat) (s : PR) (h : IsPR w r s) (most : Nat) : Calls Tryz.prog 167 #[at0 r, .int .u64 most] w fun e w' => e = .returned (.int .u64 (rNum s most).1) ∧ IsPR w' r (rNum s most).2 ∧ Kept (fun i => i = r) w w' := by
 obtain ⟨A, n, c, h1, h2, h3, h4, h5⟩ := h.at_
 have hln : s.left.length = n := by have := h2.2.1.len; simpa using this
 have HP := Lib.hid h
 have HB := Lib.hid h1
 have HX := Lib.hid h2
 have HLN := Lib.hid hln
 have H5 := Lib.hid h5
 have c0 := h1.cell 0
 have z0 := h1.frozen 0
 simp at c0
 obtain ⟨R, hR⟩ : ∃ R, R = rNum s most := ⟨_, rfl⟩
 rw [← hR]
 unfold rNum at hR
 have HG := Lib.hid (lGet_any w A n c s.left h2)
 have hinv : (getL s.left).2.2 = 0 → (getL s.left).2.1 ≤ n ∧ (getL s.left).1 < 18446744073709551616 := fun e => by
  have := getL_le e
  rw [hln] at this
  exact this
 unfold gotV at HG
 obtain ⟨G, hG⟩ : ∃ G, G = getL s.left := ⟨_, rfl⟩
 rw [← hG] at HG hR hinv
 obtain ⟨v, j, e0⟩ := G
 simp only at HG hR hinv
 clear h h1 h2 h5 hln hG
 unfold at0
 by_cases he : e0 = 0
 ·subst he
  obtain ⟨q1, q2⟩ := hinv rfl
  clear hinv
  by_cases hv : most < v
  ·have d1 : decide ((most : Int) < (v : Int)) = true := decide_eq_true (by omega)
   rw [if_pos (.inr hv)] at hR
   have HR := Lib.hid hR
   clear hR
   go_enter Tryz.func167, Tryz.ntmps167
   go_wp2_with fail
   refine HG.out.mono ?_
   rintro e w1 ⟨rfl, rfl⟩
   go_wp2_with fail
   refine (gFail_any w1 r s HP.out).mono ?_
   rintro e w2 ⟨rfl, hp, hk⟩
   have HP2 := Lib.hid hp
   have HK2 := Lib.hid hk
   clear hp hk
   go_wp2
   go_ret
   rw [HR.out]
   exact ⟨rfl, HP2.out, HK2.out⟩
  ·have d1 : decide ((most : Int) < (v : Int)) = false := decide_eq_false (by omega)
   rw [if_neg (by simp; omega)] at hR
   have HR := Lib.hid hR
   have hsl := fun w => slice_from w A n c j q1
   have hsub := HX.out.sub h3 j n q1 (Nat.le_refl _)
   rw [List.take_of_length_le (by rw [HLN.out]; exact Nat.le_refl _)] at hsub
   have HSUB := Lib.hid hsub
   clear hR hsub
   go_enter Tryz.func167, Tryz.ntmps167
   go_wp2_with fail
   refine HG.out.mono ?_
   rintro e w1 ⟨rfl, rfl⟩
   go_wp2
   go_ret
   rw [HR.out]
   have e1 := HB.out.set_ 0 (.slice (cutAddr A j c) (n - j) (c - j))
   have hk : Kept (fun i => i = r) w1 (w1.setCell ⟨r, 0, none⟩ (.slice (cutAddr A j c) (n - j) (c - j))) := kept_set (Kept.refl _ w1) 0 _
   have hne : ∀ ad, cutAddr A j c = some ad → 0 < n - j → ad.block < r := fun ad e h0 => by
    unfold cutAddr at e
    split at e
    ·exact H5.out ad e (by omega)
    ·cases A with
     | none => cases e
     | some b =>
      simp at e
      subst e
      have : (b.add j).block = b.block := by unfold Addr.add; split <;> rfl
      rw [this]
      exact H5.out b rfl (by omega)
   refine ⟨rfl, ⟨⟨_, _, _, by simpa using e1, ⟨HSUB.out.1, HSUB.out.2.1.keep fun ad e h0 => Below.heap_setCell _ _ _ _ (Nat.ne_of_lt (hne ad e h0)), fun ad e h0 => by rw [size_setCell']; exact HSUB.out.2.2 ad e h0⟩, by omega, by omega, hne⟩, HP.out.low, HP.out.high⟩, hk⟩
 ·have d1 : (e0 != 0) = true := by simpa using he
  rw [if_pos (.inl he)] at hR
  have HR := Lib.hid hR
  clear hR hinv he
  go_enter Tryz.func167, Tryz.ntmps167
  go_wp2_with fail
  refine HG.out.mono ?_
  rintro e w1 ⟨rfl, rfl⟩
  go_wp2_with fail
  refine (gFail_any w1 r s HP.out).mono ?_
  rintro e w2 ⟨rfl, hp, hk⟩
  have HP2 := Lib.hid hp
  have HK2 := Lib.hid hk
  clear hp hk
  go_wp2
  go_ret
  rw [HR.out]
  exact ⟨rfl, HP2.out, HK2.out⟩
theorem gRising_any (w : World) (r : Nat) (s : PR) (h : IsPR w r s) : Calls Tryz.prog 197 #[at0 r] w fun e w' => ∃ v, e = .returned v ∧ w'.ownsRow w.heap.size 2 1 v (rRise s).1.length ((rRise s).1.map i64V) ∧ IsPR w' r (rRise s).2 ∧ Kept (fun i => i = r) w w' := by
 obtain ⟨A, n, c, h1, h2, h3, h4, h5⟩ := h.at_
 have hln : s.left.length = n := by have := h2.2.1.len; simpa using this
 have hrl := h.lt
 have HP := Lib.hid h
 have HB := Lib.hid h1
 have HX := Lib.hid h2
 have HLN := Lib.hid hln
 have H5 := Lib.hid h5
 have c0 := h1.cell 0
 simp at c0
 obtain ⟨R, hR⟩ : ∃ R, R = rRise s := ⟨_, rfl⟩
 rw [← hR]
 unfold rRise at hR
 have HG := Lib.hid (lGetRising_any w A n c s.left h2 h3 h4 4096 (by omega) (by omega))
 have hinv : (getR s.left 4096).2.2 = 0 → (getR s.left 4096).2.1 ≤ n := fun e => by
  have := (getR_le e).1
  rwa [hln] at this
 unfold GetROut at HG
 obtain ⟨G, hG⟩ : ∃ G, G = getR s.left 4096 := ⟨_, rfl⟩
 rw [← hG] at HG hR hinv
 obtain ⟨l, j, e0⟩ := G
 simp only at HG hR hinv
 clear h h1 h2 h5 hln hG
 unfold at0
 by_cases he : e0 = 0
 ·subst he
  have q1 := hinv rfl
  rw [if_neg (by simp)] at hR
  have HR := Lib.hid hR
  have hsl := fun w => slice_from w A n c j q1
  have hsub := HX.out.sub h3 j n q1 (Nat.le_refl _)
  rw [List.take_of_length_le (by rw [HLN.out]; exact Nat.le_refl _)] at hsub
  have HSUB := Lib.hid hsub
  clear hR hsub hinv
  go_enter Tryz.func197, Tryz.ntmps197
  go_wp2_with fail
  refine HG.out.mono ?_
  rintro e w1 ⟨v1, rfl, hb1, ho1⟩
  have HB1 := Lib.hid hb1
  have HO1 := Lib.hid ho1
  have HBK1 := Lib.hid (HB.out.below hb1 hrl)
  have HSUB1 := Lib.hid (HSUB.out.below hb1)
  have t0 := HBK1.out.cell 0
  have z0 := HBK1.out.frozen 0
  simp at t0
  clear hb1 ho1 c0
  go_wp2
  go_ret
  rw [HR.out]
  have e1 := HBK1.out.set_ 0 (.slice (cutAddr A j c) (n - j) (c - j))
  have hk : Kept (fun i => i = r) w (w1.setCell ⟨r, 0, none⟩ (.slice (cutAddr A j c) (n - j) (c - j))) := kept_set (Kept.below HB1.out) 0 _
  have hne : ∀ ad, cutAddr A j c = some ad → 0 < n - j → ad.block < r := fun ad e h0 => by
   unfold cutAddr at e
   split at e
   ·exact H5.out ad e (by omega)
   ·cases A with
    | none => cases e
    | some b =>
     simp at e
     subst e
     have : (b.add j).block = b.block := by unfold Addr.add; split <;> rfl
     rw [this]
     exact H5.out b rfl (by omega)
  refine ⟨v1, rfl, ?_, ⟨⟨_, _, _, by simpa using e1, ⟨HSUB1.out.1, HSUB1.out.2.1.keep fun ad e h0 => Below.heap_setCell _ _ _ _ (Nat.ne_of_lt (hne ad e h0)), fun ad e h0 => by rw [size_setCell']; exact HSUB1.out.2.2 ad e h0⟩, by omega, by omega, hne⟩, HP.out.low, HP.out.high⟩, hk⟩
  exact ownsRow_block HO1.out fun g hg => Below.heap_setCell _ _ _ _ (by have := (HO1.out.lt g hg).1; simp only; omega)
 ·have d1 : (e0 != 0) = true := by simpa using he
  rw [if_pos he] at hR
  have HR := Lib.hid hR
  clear hR hinv he
  go_enter Tryz.func197, Tryz.ntmps197
  go_wp2_with fail
  refine HG.out.mono ?_
  rintro e w1 ⟨v1, rfl, hb1, ho1⟩
  have HB1 := Lib.hid hb1
  have HP1 := Lib.hid (HP.out.below hb1)
  clear hb1 ho1
  go_wp2_with fail
  refine (gFail_any w1 r s HP1.out).mono ?_
  rintro e w2 ⟨rfl, hp, hk⟩
  have HP2 := Lib.hid hp
  have HK2 := Lib.hid (kept_then (Kept.below HB1.out) hk)
  clear hp hk
  go_wp2
  go_ret
  rw [HR.out]
  exact ⟨_, rfl, ⟨rfl, .inl ⟨rfl, rfl⟩⟩, HP2.out, HK2.out⟩
theorem rNum_le (s : PR) (most : Nat) : (rNum s most).1 ≤ most := by
 unfold rNum
 split
 ·exact Nat.zero_le _
 ·rename_i h
  simp only
  omega
theorem rNum_last (s : PR) (most : Nat) : (rNum s most).2.last = s.last := by
 unfold rNum
 split <;> rfl
theorem gDoc_any (w : World) (r : Nat) (s : PR) (h : IsPR w r s) : Calls Tryz.prog 196 #[at0 r] w fun e w' => e = .returned (.int .i64 (rDoc s).1) ∧ IsPR w' r (rDoc s).2 ∧ Kept (fun i => i = r) w w' := by
 have hlow := h.low
 have hhigh := h.high
 have hlt := h.lt
 obtain ⟨A, n, c, h1, h2, h3, h4, h5⟩ := h.at_
 have HP := Lib.hid h
 have HB := Lib.hid h1
 have hnum := gNumber_any w.drew r s (h.below (below_drewN (Below.refl _ w) 1)) 4294967296
 have hle := rNum_le s 4294967296
 have hla := rNum_last s 4294967296
 obtain ⟨R, hR⟩ : ∃ R, R = rDoc s := ⟨_, rfl⟩
 rw [← hR]
 unfold rDoc at hR
 obtain ⟨z, hz⟩ : ∃ z, z = rNum s 4294967296 := ⟨_, rfl⟩
 rw [← hz] at hR hle hla hnum
 obtain ⟨k, z2⟩ := z
 simp only at hR hle hla hnum
 have HNUM := Lib.hid hnum
 have HR := Lib.hid hR
 have HLA := Lib.hid hla
 obtain ⟨la, hla0⟩ : ∃ la, la = s.last := ⟨_, rfl⟩
 have c1 := h1.cell 1
 simp at c1
 rw [← hla0] at c1 hlow hhigh
 have HL0 := Lib.hid hla0
 have hw1 : IntKind.i64.wrap (la + 1) = la + 1 := IntWalk.i64_in _ (by omega)
 have hw2 : IntKind.i64.wrap (k : Int) = (k : Int) := IntWalk.i64_in _ (by omega)
 have hw3 : IntKind.i64.wrap (la + 1 + (k : Int)) = la + 1 + (k : Int) := IntWalk.i64_in _ (by omega)
 clear h h1 h2 h5 hz hR hnum hla hla0
 unfold at0
 go_enter Tryz.func196, Tryz.ntmps196
 go_wp2_with fail
 refine wp_region_held_drew (S := fun w' => w'.cell? ⟨r, 1, none⟩ = some (.int .i64 la)) (by kernel_rfl) ?_ (fun hHeld => ?_)
 ·exact c1
 refine wpAnyH_take (i := 0) (oi := ?oit0) (v := ?vt0) ?hit0 (by kernel_rfl) (by kernel_rfl) (by kernel_rfl) ?hQt0 (Or.inl ⟨?hwt0, ?hyt0⟩) (by assumption) ?restt0
 case hit0 => (first | (simp only [lz0, lz1, lz2]; rfl) | rfl)
 case hQt0 => exact fun _ _ _ h => h
 case hwt0 => rfl
 case hyt0 => ((intro w hSw; go_simp); first | done | with_reducible rfl)
 try simp only [Act.put, lz3, lz4, lz5]
 refine wpAnyH_take (i := 1) (oi := ?oit1) (v := ?vt1) ?hit1 (by kernel_rfl) (by kernel_rfl) (by kernel_rfl) ?hQt1 (Or.inl ⟨?hwt1, ?hyt1⟩) (by assumption) ?restt1
 case hit1 => (first | (simp only [lz0, lz1, lz2]; rfl) | rfl)
 case hQt1 => exact fun _ _ _ h => h
 case hwt1 => rfl
 case hyt1 => ((intro w hSw; go_simp); first | done | with_reducible rfl)
 try simp only [Act.put, lz3, lz4, lz5]
 refine wpAnyH_take (i := 2) (oi := ?oit2) (v := ?vt2) ?hit2 (by kernel_rfl) (by kernel_rfl) (by kernel_rfl) ?hQt2 (Or.inl ⟨?hwt2, ?hyt2⟩) (by assumption) ?restt2
 case hit2 => (first | (simp only [lz0, lz1, lz2]; rfl) | rfl)
 case hQt2 => exact fun _ _ _ h => h
 case hwt2 => rfl
 case hyt2 => ((intro w hSw; go_simp); first | done | with_reducible rfl)
 try simp only [Act.put, lz3, lz4, lz5]
 refine wpAnyH_take (i := 3) (oi := ?oit3) (v := ?vt3) ?hit3 (by kernel_rfl) (by kernel_rfl) (by kernel_rfl) ?hQt3 (Or.inl ⟨?hwt3, ?hyt3⟩) (by assumption) ?restt3
 case hit3 => (first | (simp only [lz0, lz1, lz2]; rfl) | rfl)
 case hQt3 => exact fun _ _ _ h => h
 case hwt3 => rfl
 case hyt3 => ((intro w hSw; go_simp); first | done | with_reducible rfl)
 try simp only [Act.put, lz3, lz4, lz5]
 refine wpAnyH_take (i := 4) (oi := ?oit4) (v := ?vt4) ?hit4 (by kernel_rfl) (by kernel_rfl) (by kernel_rfl) ?hQt4 (Or.inl ⟨?hwt4, ?hyt4⟩) (by assumption) ?restt4
 case hit4 => (first | (simp only [lz0, lz1, lz2]; rfl) | rfl)
 case hQt4 => exact fun _ _ _ h => h
 case hwt4 => rfl
 case hyt4 => ((intro w hSw; go_simp); first | done | with_reducible rfl)
 try simp only [Act.put, lz3, lz4, lz5]
 refine wpAnyH_take (i := 5) (oi := ?oit5) (v := ?vt5) ?hit5 (by kernel_rfl) (by kernel_rfl) (by kernel_rfl) ?hQt5 (Or.inl ⟨?hwt5, ?hyt5⟩) (by assumption) ?restt5
 case hit5 => (first | (simp only [lz0, lz1, lz2]; rfl) | rfl)
 case hQt5 => exact fun _ _ _ h => h
 case hwt5 => rfl
 case hyt5 => ((intro w hSw; go_simp); first | done | with_reducible rfl)
 try simp only [Act.put, lz3, lz4, lz5]
 refine wpAnyH_ready (rs := [6]) (by kernel_rfl) (by simp) ?_
 refine AllReadyH.cons (o := ?oc1) ?hcc1 ?stc1 AllReadyH.nil
 case hcc1 => (simp only [lz0, lz1, lz2]; rfl)
 intro K hK
 go_simp
 refine HNUM.out.mono ?_
 rintro e w2 ⟨rfl, hp, hk⟩
 have hS2 : w2.cell? ⟨r, 1, none⟩ = some (.int .i64 la) := by
  obtain ⟨A2, n2, c2, q1, _⟩ := hp.at_
  have := q1.cell 1
  simp at this
  rw [this, HLA.out, HL0.out]
 have HP2 := Lib.hid hp
 have HK2 : Hid (Kept (fun i => i = r) w w2) := Lib.hid ⟨hk.os, hk.tape, hk.output, hk.size, hk.block⟩
 clear hp hk
 go_wp2_with fail
 refine hK.out _ _ hS2 (fun _ => ?_)
 clear hK K
 refine wpAnyH_take (i := 7) (oi := ?oiu7) (v := ?vu7) ?hiu7 (by kernel_rfl) (by kernel_rfl) (by kernel_rfl) ?hQu7 (Or.inl ⟨?hwu7, ?hyu7⟩) (by assumption) ?restu7
 case hiu7 => (first | (simp only [lz0, lz1, lz2]; rfl) | rfl)
 case hQu7 => exact fun _ _ _ h => h
 case hwu7 => rfl
 case hyu7 => ((intro w hSw; go_simp); first | done | with_reducible rfl)
 try simp only [Act.put, lz3, lz4, lz5]
 refine wpAnyH_take (i := 8) (oi := ?oiu8) (v := ?vu8) ?hiu8 (by kernel_rfl) (by kernel_rfl) (by kernel_rfl) ?hQu8 (Or.inl ⟨?hwu8, ?hyu8⟩) (by assumption) ?restu8
 case hiu8 => (first | (simp only [lz0, lz1, lz2]; rfl) | rfl)
 case hQu8 => exact fun _ _ _ h => h
 case hwu8 => rfl
 case hyu8 => ((intro w hSw; go_simp); first | done | with_reducible rfl)
 try simp only [Act.put, lz3, lz4, lz5]
 refine wpAnyH_take (i := 9) (oi := ?oiu9) (v := ?vu9) ?hiu9 (by kernel_rfl) (by kernel_rfl) (by kernel_rfl) ?hQu9 (Or.inl ⟨?hwu9, ?hyu9⟩) (by assumption) ?restu9
 case hiu9 => (first | (simp only [lz0, lz1, lz2]; rfl) | rfl)
 case hQu9 => exact fun _ _ _ h => h
 case hwu9 => rfl
 case hyu9 => ((intro w hSw; go_simp); first | done | with_reducible rfl)
 try simp only [Act.put, lz3, lz4, lz5]
 refine wpAnyH_done (by kernel_rfl) ?_ _
 obtain ⟨d, hd⟩ : ∃ d, d = la + 1 + (k : Int) := ⟨_, rfl⟩
 have hr := HR.out
 rw [← HL0.out, ← hd] at hr
 rw [← hd]
 have HR2 := Lib.hid hr
 clear hr
 by_cases hbig : 4294967296 < d
 ·have d1 : decide ((4294967296 : Int) < d) = true := decide_eq_true hbig
  clear hd hw3
  go_wp2_with fail
  refine (gFail_any w2 r z2 HP2.out).mono ?_
  rintro e w3 ⟨rfl, hp3, hk3⟩
  have HP3 := Lib.hid hp3
  have HK3 := Lib.hid (kept_then HK2.out hk3)
  clear hp3 hk3
  go_wp2
  go_ret
  rw [HR2.out, if_pos hbig]
  exact ⟨rfl, HP3.out, HK3.out⟩
 ·have d1 : decide ((4294967296 : Int) < d) = false := decide_eq_false hbig
  clear hd hw3
  go_wp2
  go_ret
  rw [HR2.out, if_neg (show ¬ 4294967296 < d by omega)]
  exact ⟨rfl, HP2.out, HK2.out⟩
def RetP (r : Nat) (w : World) (R : List Pst × PR) (e : Ending) (w' : World) : Prop := ∃ v, e = .returned v ∧ PostsO w' w.heap.size v R.1 ∧ IsPR w' r R.2 ∧ Kept (fun i => i = r) w w'
theorem rDoc_high {s : PR} (hb : s.last ≤ 4294967296) (h0 : -1 ≤ s.last) : (rRise (rDoc s).2).1.length ≠ 0 → -1 ≤ (rDoc s).1 ∧ (rDoc s).1 ≤ 4294967296 := by
 intro h
 unfold rDoc at h ⊢
 simp only at h ⊢
 by_cases h1 : 4294967296 < s.last + 1 + ((rNum s 4294967296).1 : Int)
 ·rw [if_pos h1] at h
  exfalso
  apply h
  unfold rRise PR.fail getR
  simp [getL, getAux]
 ·omega
theorem rRise_le (s : PR) : (rRise s).1.length ≤ 4096 ∧ ∀ x ∈ (rRise s).1, fits64 x := by
 unfold rRise
 split
 ·exact ⟨by simp, by simp⟩
 ·rename_i h
  have h1 : (getR s.left 4096).2.2 = 0 := by
   rcases Decidable.em ((getR s.left 4096).2.2 = 0) with h2 | h2
   ·exact h2
   ·exact absurd h2 h
  obtain ⟨q1, q2, q3, q4⟩ := getR_le h1
  refine ⟨by simp only; omega, fun x hx => ?_⟩
  have h3 := rises_ge q3 x hx
  have h4 := q4 x hx
  unfold fits64
  omega
theorem one_post {w : World} {d : Int} {v : Value} {x : Pst} {far : Nat → Prop} (h : PostAt w x (d, v) far) (hf : ∀ i, i < w.heap.size → far i → w.heap.size ≤ w.heap.size) (base : Nat) (hb : base ≤ w.heap.size) (hfar : ∀ i, far i → base ≤ i) :
  PostsO (w.alloc (.cells #[.int .i64 d, v] 62)) base (.slice (some ⟨w.heap.size, 0, none⟩) 1 1) [x] := by
 have _ := hf
 refine ⟨[(d, v)], rfl, ⟨rfl, .inr ⟨w.heap.size, 1, #[.int .i64 d, v], rfl, hb, heap_alloc_new w _, Nat.le_refl _, by unfold maxLen; omega, rfl, rfl⟩⟩, fun i p y e1 e2 => ?_⟩
 match i with
 | 0 =>
  simp at e1 e2
  subst e1 e2
  exact h.mono (fun i hi hfi => ⟨Below.heap_alloc w _ i hi, hfar i hfi, fun e => by have := Option.some.inj e; simp only at this; omega⟩) (by simp)
 | i + 1 => simp at e1
theorem gPost_any (w : World) (r : Nat) (s : PR) (h : IsPR w r s) : Calls Tryz.prog 164 #[at0 r] w (RetP r w (rPost s)) := by
 obtain ⟨i1, hi1, hy0, hy1, hy2⟩ := info_parts spotInfo
 have hlow := h.low
 have hhigh := h.high
 have hlt := h.lt
 have HDOC := Lib.hid (gDoc_any w r s h)
 have hdh := rDoc_high hhigh hlow
 have hpl := rRise_le (rDoc s).2
 have hal := rRise_le (rRise (rDoc s).2).2
 obtain ⟨R, hR⟩ : ∃ R, R = rPost s := ⟨_, rfl⟩
 rw [← hR]
 unfold rPost rSpots at hR
 obtain ⟨D, hD⟩ : ∃ D, D = rDoc s := ⟨_, rfl⟩
 rw [← hD] at HDOC hdh hpl hal hR
 obtain ⟨d, s1⟩ := D
 simp only at HDOC hdh hpl hal hR
 obtain ⟨P', hP⟩ : ∃ P', P' = rRise s1 := ⟨_, rfl⟩
 rw [← hP] at hdh hpl hal hR
 have HP1 := Lib.hid hP
 obtain ⟨P, s2⟩ := P'
 simp only at hdh hpl hal hR
 obtain ⟨A', hA⟩ : ∃ A', A' = rRise s2 := ⟨_, rfl⟩
 rw [← hA] at hal hR
 have HA1 := Lib.hid hA
 obtain ⟨A, s3⟩ := A'
 simp only at hal hR
 have HR := Lib.hid hR
 have HPF := Lib.hid hpl.2
 have HAF := Lib.hid hal.2
 have hPl := hpl.1
 have hAl := hal.1
 clear h hR hD hP hA hpl hal
 unfold at0
 go_enter Tryz.func164, Tryz.ntmps164
 go_wp2_with fail
 refine HDOC.out.mono ?_
 rintro e w1 ⟨rfl, hp1, hk1⟩
 have HK1 := Lib.hid hk1
 have hz1 := hk1.size
 have HRISE := Lib.hid (gRising_any w1 r s1 hp1)
 rw [← HP1.out] at HRISE
 clear hk1 hp1
 go_wp2_with fail
 refine HRISE.out.mono ?_
 rintro e w2 ⟨v2, rfl, ho2, hp2, hk2⟩
 have HK2 := Lib.hid (kept_then HK1.out hk2)
 have HO2 := Lib.hid ho2
 have hz2 := hk2.size
 have HRISE2 := Lib.hid (gRising_any w2 r s2 hp2)
 rw [← HA1.out] at HRISE2
 obtain ⟨AP, cP, rfl⟩ := own_slice ho2
 clear ho2 hp2 hk2
 go_wp2_with fail
 refine HRISE2.out.mono ?_
 rintro e w3 ⟨v3, rfl, ho3, hp3, hk3⟩
 have HK3 := Lib.hid (kept_then HK2.out hk3)
 have HO3 := Lib.hid ho3
 have HOP := Lib.hid (ownsRow_block HO2.out (w' := w3) fun g hg => hk3.block g (HO2.out.lt g hg).2 (fun e => by have := (HO2.out.lt g hg).1; omega))
 have HP3 := Lib.hid hp3
 have hz3 := hk3.size
 obtain ⟨AA, cA, rfl⟩ := own_slice ho3
 clear ho3 hp3 hk3
 by_cases hp0 : P.length = 0
 ·have d1 : ((P.length : Int) == 0) = true := by rw [hp0]; rfl
  have hr := HR.out
  rw [if_pos (.inl hp0)] at hr
  have HR := Lib.hid hr
  clear hr hp0 hdh
  go_wp2_with fail
  refine (gFail_any w3 r s3 HP3.out).mono ?_
  rintro e w4 ⟨rfl, hp4, hk4⟩
  have HP4 := Lib.hid hp4
  have HK4 := Lib.hid (kept_then HK3.out hk4)
  clear hp4 hk4
  go_wp2
  go_ret
  rw [HR.out]
  exact ⟨_, rfl, PostsO.nil _ _, HP4.out, HK4.out⟩
 ·have d1 : ((P.length : Int) == 0) = false := beq_eq_false_iff_ne.2 (fun e => hp0 (by omega))
  by_cases hpa : P.length = A.length
  ·have d2 : ((P.length : Int) != (A.length : Int)) = false := by simp; omega
   have hr := HR.out
   rw [if_neg (fun e => e.elim hp0 (fun e => e hpa))] at hr
   have HR := Lib.hid hr
   obtain ⟨hd0, hd1⟩ := hdh hp0
   obtain ⟨n, hn⟩ : ∃ n, n = P.length := ⟨_, rfl⟩
   have hnA : A.length = n := by omega
   have hn0 : 0 < n := by omega
   obtain ⟨B3, n3, c3, q1, q2, q3, q4, q5⟩ := HP3.out.at_
   have HB3 := Lib.hid q1
   have t1 := q1.cell 1
   have z1 := q1.frozen 1
   simp at t1
   obtain ⟨w4, hw4⟩ : ∃ w4, w4 = w3.setCell ⟨r, 1, none⟩ (.int .i64 d) := ⟨_, rfl⟩
   have HP4 : Hid (IsPR w4 r ⟨s3.left, d, s3.bad⟩) := Lib.hid (by
    rw [hw4]
    have e1 := q1.set_ 1 (.int .i64 d)
    exact ⟨⟨B3, n3, c3, by simpa using e1, ⟨q2.1, q2.2.1.keep fun ad e h0 => Below.heap_setCell _ _ _ _ (Nat.ne_of_lt (q5 ad e h0)), fun ad e h0 => by rw [size_setCell']; exact q2.2.2 ad e h0⟩, q3, q4, q5⟩, hd0, hd1⟩)
   have HK4 : Hid (Kept (fun i => i = r) w w4) := Lib.hid (by rw [hw4]; exact kept_set HK3.out 1 _)
   have HPI : Hid (IntsIn w4 AP n P) := Lib.hid (by
    have := IntsIn.own (w := w4) (base := w1.heap.size) (by rw [hw4]; exact ownsRow_block HOP.out fun g hg => Below.heap_setCell _ _ _ _ (by have := (HO2.out.lt g hg).1; simp only; omega)) (by unfold maxLen; omega) HPF.out
    rw [hn]; exact this)
   have HAI : Hid (IntsIn w4 AA n A) := Lib.hid (by
    have := IntsIn.own (w := w4) (base := w2.heap.size) (by rw [hw4]; exact ownsRow_block HO3.out fun g hg => Below.heap_setCell _ _ _ _ (by have := (HO3.out.lt g hg).1; simp only; omega)) (by unfold maxLen; omega) HAF.out
    rw [hnA] at this; exact this)
   have hz4 : w4.heap.size = w3.heap.size := by rw [hw4]; exact size_setCell' _ _ _
   have HW4 := Lib.hid hw4
   rw [← hn, hnA] at d2
   rw [← hn] at d1
   have HNP := Lib.hid hn.symm
   have HNA := Lib.hid hnA
   have hn4 : n ≤ 4096 := by omega
   rw [hnA, ← hn]
   clear q1 q2 q3 q4 q5 hw4 hr hp0 hpa hPl hAl hn hnA hdh
   have hzl : (P.zip A).length = n := by rw [List.length_zip]; have := HNP.out; have := HNA.out; omega
   have HZL := Lib.hid hzl
   clear hzl
   go_wp2_with fail
   rw [← HW4.out]
   clear t1 z1
   go_loopw [6, 32] (fun v i wr => ∃ k : Nat, k ≤ n ∧ i = .int .i64 k ∧ wr.ownsRow w4.heap.size 64 2 v k (((P.zip A).take k).flatMap twoCells) ∧ Below w4.heap.size w4 wr) (fun _ i _ => n - (intOf i).toNat)
   case atStart => exact ⟨0, by omega, rfl, ⟨rfl, .inl ⟨rfl, rfl⟩⟩, Below.refl _ _⟩
   case round =>
    obtain ⟨k, hk, rfl, hO, hB⟩ := hrel
    have HO := Lib.hid hO
    have HB := Lib.hid hB
    have hbz := hB.size
    clear hO hB
    obtain ⟨Av, cv, hv⟩ := own_slice HO.out
    subst hv
    rcases Nat.lt_or_ge k n with hlt2 | hge
    ·have hlt' : (k : Int) < (n : Int) := by omega
     have p0 : (0 : Int) ≤ (k : Int) := by omega
     have hw5 : IntKind.i64.wrap ((k : Int) + 1) = (k : Int) + 1 := IntWalk.i64_in _ (by omega)
     obtain ⟨pP, x1, rfl, hx1, a0, -, -⟩ := (HPI.out.below HB.out).at k hlt2
     obtain ⟨pA, x2, rfl, hx2, b0, -, -⟩ := (HAI.out.below HB.out).at k hlt2
     obtain ⟨_, y1, e1, hy, g0, -, -⟩ := HPI.out.at k hlt2
     obtain ⟨_, y2, e2, hy', g1, -, -⟩ := HAI.out.at k hlt2
     obtain rfl := Option.some.inj e1
     obtain rfl := Option.some.inj e2
     obtain rfl := Option.some.inj (hx1.symm.trans hy)
     obtain rfl := Option.some.inj (hx2.symm.trans hy')
     have HPI4 := Lib.hid g0
     have HAI4 := Lib.hid g1
     clear e1 e2 hy hy' g0 g1
     have HTK : Hid ((P.zip A).take (k + 1) = (P.zip A).take k ++ [(x1, x2)]) := Lib.hid (by
      rw [List.take_add_one, (List.getElem?_zip_eq_some (z := (x1, x2))).2 ⟨hx1, hx2⟩]
      rfl)
     clear hx1 hx2
     go_wp2_with fail
     refine wp_region_held_drew (S := fun w' => w'.cell? (pP.add k) = some (.int .i64 x1) ∧ w'.cell? (pA.add k) = some (.int .i64 x2)) (by kernel_rfl) ?_ (fun hHeld => ?_)
     ·exact ⟨a0, b0⟩
     refine wpAnyH_take (i := 0) (oi := ?oit0) (v := ?vt0) ?hit0 (by kernel_rfl) (by kernel_rfl) (by kernel_rfl) ?hQt0 (Or.inl ⟨?hwt0, ?hyt0⟩) (by assumption) ?restt0
     case hit0 => (first | (simp only [lz0, lz1, lz2]; rfl) | rfl)
     case hQt0 => exact fun _ _ _ h => h
     case hwt0 => rfl
     case hyt0 => ((intro w hSw; obtain ⟨hS1, hS2⟩ := hSw; go_simp); first | done | with_reducible rfl)
     try simp only [Act.put, lz3, lz4, lz5]
     refine wpAnyH_take (i := 1) (oi := ?oit1) (v := ?vt1) ?hit1 (by kernel_rfl) (by kernel_rfl) (by kernel_rfl) ?hQt1 (Or.inl ⟨?hwt1, ?hyt1⟩) (by assumption) ?restt1
     case hit1 => (first | (simp only [lz0, lz1, lz2]; rfl) | rfl)
     case hQt1 => exact fun _ _ _ h => h
     case hwt1 => rfl
     case hyt1 => ((intro w hSw; obtain ⟨hS1, hS2⟩ := hSw; go_simp); first | done | with_reducible rfl)
     try simp only [Act.put, lz3, lz4, lz5]
     refine wpAnyH_take (i := 2) (oi := ?oit2) (v := ?vt2) ?hit2 (by kernel_rfl) (by kernel_rfl) (by kernel_rfl) ?hQt2 (Or.inl ⟨?hwt2, ?hyt2⟩) (by assumption) ?restt2
     case hit2 => (first | (simp only [lz0, lz1, lz2]; rfl) | rfl)
     case hQt2 => exact fun _ _ _ h => h
     case hwt2 => rfl
     case hyt2 => ((intro w hSw; obtain ⟨hS1, hS2⟩ := hSw; go_simp); first | done | with_reducible rfl)
     try simp only [Act.put, lz3, lz4, lz5]
     refine wpAnyH_take (i := 3) (oi := ?oit3) (v := ?vt3) ?hit3 (by kernel_rfl) (by kernel_rfl) (by kernel_rfl) ?hQt3 (Or.inl ⟨?hwt3, ?hyt3⟩) (by assumption) ?restt3
     case hit3 => (first | (simp only [lz0, lz1, lz2]; rfl) | rfl)
     case hQt3 => exact fun _ _ _ h => h
     case hwt3 => rfl
     case hyt3 => ((intro w hSw; obtain ⟨hS1, hS2⟩ := hSw; go_simp); first | done | with_reducible rfl)
     try simp only [Act.put, lz3, lz4, lz5]
     refine wpAnyH_take (i := 4) (oi := ?oit4) (v := ?vt4) ?hit4 (by kernel_rfl) (by kernel_rfl) (by kernel_rfl) ?hQt4 (Or.inl ⟨?hwt4, ?hyt4⟩) (by assumption) ?restt4
     case hit4 => (first | (simp only [lz0, lz1, lz2]; rfl) | rfl)
     case hQt4 => exact fun _ _ _ h => h
     case hwt4 => rfl
     case hyt4 => ((intro w hSw; obtain ⟨hS1, hS2⟩ := hSw; go_simp); first | done | with_reducible rfl)
     try simp only [Act.put, lz3, lz4, lz5]
     refine wpAnyH_take (i := 5) (oi := ?oit5) (v := ?vt5) ?hit5 (by kernel_rfl) (by kernel_rfl) (by kernel_rfl) ?hQt5 (Or.inl ⟨?hwt5, ?hyt5⟩) (by assumption) ?restt5
     case hit5 => (first | (simp only [lz0, lz1, lz2]; rfl) | rfl)
     case hQt5 => exact fun _ _ _ h => h
     case hwt5 => rfl
     case hyt5 => ((intro w hSw; obtain ⟨hS1, hS2⟩ := hSw; go_simp); first | done | with_reducible rfl)
     try simp only [Act.put, lz3, lz4, lz5]
     refine wpAnyH_take (i := 6) (oi := ?oit6) (v := ?vt6) ?hit6 (by kernel_rfl) (by kernel_rfl) (by kernel_rfl) ?hQt6 (Or.inl ⟨?hwt6, ?hyt6⟩) (by assumption) ?restt6
     case hit6 => (first | (simp only [lz0, lz1, lz2]; rfl) | rfl)
     case hQt6 => exact fun _ _ _ h => h
     case hwt6 => rfl
     case hyt6 => ((intro w hSw; obtain ⟨hS1, hS2⟩ := hSw; go_simp); first | done | with_reducible rfl)
     try simp only [Act.put, lz3, lz4, lz5]
     refine wpAnyH_take (i := 7) (oi := ?oit7) (v := ?vt7) ?hit7 (by kernel_rfl) (by kernel_rfl) (by kernel_rfl) ?hQt7 (Or.inl ⟨?hwt7, ?hyt7⟩) (by assumption) ?restt7
     case hit7 => (first | (simp only [lz0, lz1, lz2]; rfl) | rfl)
     case hQt7 => exact fun _ _ _ h => h
     case hwt7 => rfl
     case hyt7 => ((intro w hSw; obtain ⟨hS1, hS2⟩ := hSw; go_simp); first | done | with_reducible rfl)
     try simp only [Act.put, lz3, lz4, lz5]
     refine wpAnyH_take (i := 8) (oi := ?oit8) (v := ?vt8) ?hit8 (by kernel_rfl) (by kernel_rfl) (by kernel_rfl) ?hQt8 (Or.inl ⟨?hwt8, ?hyt8⟩) (by assumption) ?restt8
     case hit8 => (first | (simp only [lz0, lz1, lz2]; rfl) | rfl)
     case hQt8 => exact fun _ _ _ h => h
     case hwt8 => rfl
     case hyt8 => ((intro w hSw; obtain ⟨hS1, hS2⟩ := hSw; go_simp); first | done | with_reducible rfl)
     try simp only [Act.put, lz3, lz4, lz5]
     refine wpAnyH_take (i := 9) (oi := ?oit9) (v := ?vt9) ?hit9 (by kernel_rfl) (by kernel_rfl) (by kernel_rfl) ?hQt9 (Or.inl ⟨?hwt9, ?hyt9⟩) (by assumption) ?restt9
     case hit9 => (first | (simp only [lz0, lz1, lz2]; rfl) | rfl)
     case hQt9 => exact fun _ _ _ h => h
     case hwt9 => rfl
     case hyt9 => ((intro w hSw; obtain ⟨hS1, hS2⟩ := hSw; go_simp); first | done | with_reducible rfl)
     try simp only [Act.put, lz3, lz4, lz5]
     obtain ⟨wd, hwd⟩ : ∃ z, z = wr.drew := ⟨_, rfl⟩
     have hbd : Below wr.heap.size wr wd := by rw [hwd]; exact (Below.refl _ wr).drew
     have HOD := Lib.hid (ownsRow_block HO.out (w' := wd) fun g hg => hbd.block g (HO.out.lt g hg).2)
     have hzd : wr.heap.size ≤ wd.heap.size := by rw [hwd]; exact Nat.le_refl _
     rw [← hwd]
     have hba : Below wd.heap.size wd (wd.alloc (.cells #[.int .i64 x1, .int .i64 x2] 64)) := (Below.refl _ wd).alloc (Nat.le_refl _) _
     have hSd := And.intro (below_cells hbd a0) (below_cells hbd b0)
     have hSa := And.intro (below_cells hba hSd.1) (below_cells hba hSd.2)
     have HBA := Lib.hid (below_then (below_then HB.out hbd hbz) hba (by omega))
     clear hwd
     refine wpAnyH_ready (rs := [10]) (by kernel_rfl) (by simp) ?_
     refine AllReadyH.cons (o := ?oc1) ?hcc1 ?stc1 AllReadyH.nil
     case hcc1 => (simp only [lz0, lz1, lz2]; rfl)
     intro K hK
     go_simp
     refine hK.out _ _ hSa (fun _ => ?_)
     clear hK K
     try simp only [Act.put, lz3, lz4, lz5]
     refine wpAnyH_ready (rs := [11]) (by kernel_rfl) (by simp) ?_
     refine AllReadyH.cons (o := ?oc2) ?hcc2 ?stc2 AllReadyH.nil
     case hcc2 => (simp only [lz0, lz1, lz2]; rfl)
     intro K hK
     refine step_append_recK _ rfl (.tmp 35) (.tmp 45) 60 rfl w4.heap.size 64 i1 _ 2 16 Tryz.underlying60 hi1 hy0 hy1 hy2 rfl (by decide) _ k _ rfl (World.ownsRow.alloc HOD.out _) ⟨wd.heap.size, 0, none⟩ 1 1 (twoCells (x1, x2)) rfl rfl (two_new wd 64 (x1, x2)) (two_one _) (by unfold maxLen; omega) (by omega) (by simp; omega) ?_
     intro v5 w5 hown hgrow hloc
     have HO5 := Lib.hid hown
     have HB5 := Lib.hid (HBA.out.grown hgrow (by simp; omega) (fun g hg => (HO.out.lt g hg).1))
     have hS5 : w5.cell? (pP.add k) = some (.int .i64 x1) ∧ w5.cell? (pA.add k) = some (.int .i64 x2) := ⟨below_cells HB5.out HPI4.out, below_cells HB5.out HAI4.out⟩
     clear hown hgrow hloc
     refine hK.out _ _ hS5 (fun _ => ?_)
     clear hK K
     try simp only [Act.put, lz3, lz4, lz5]
     refine wpAnyH_take (i := 12) (oi := ?oiu12) (v := ?vu12) ?hiu12 (by kernel_rfl) (by kernel_rfl) (by kernel_rfl) ?hQu12 (Or.inl ⟨?hwu12, ?hyu12⟩) (by assumption) ?restu12
     case hiu12 => (first | (simp only [lz0, lz1, lz2]; rfl) | rfl)
     case hQu12 => exact fun _ _ _ h => h
     case hwu12 => rfl
     case hyu12 => ((intro w hSw; obtain ⟨hS1, hS2⟩ := hSw; go_simp); first | done | with_reducible rfl)
     try simp only [Act.put, lz3, lz4, lz5]
     refine wpAnyH_done (by kernel_rfl) ?_ _
     go_wp2
     go_roundw
     case rel =>
      refine ⟨k + 1, by omega, by go_num, ?_, HB5.out⟩
      rw [HTK.out, List.flatMap_append]
      simpa using HO5.out
     case measure => simp [intOf]; omega
    ·obtain rfl : k = n := by omega
     have hlz : ¬ ((k : Int) < (k : Int)) := by omega
     have hall : (P.zip A).take k = P.zip A := List.take_of_length_le (by rw [HZL.out]; exact Nat.le_refl _)
     rw [hall] at HO
     have HO' := Lib.hid HO.out
     clear hall HO
     go_wp2
     go_ret
     rw [HR.out]
     have hpa : PostAt wr (d, P.zip A) (d, .slice Av k cv) fun i => w4.heap.size ≤ i := by
      refine ⟨rfl, by unfold fits64; omega, Av, cv, by simp only; rw [HZL.out], by simp only; rw [HZL.out]; exact rowCap_le HO'.out, ?_, fun ad e _ => ?_⟩
      ·simp only
       rw [HZL.out]
       exact PairsIn.ownTwo HO'.out HZL.out (by unfold maxLen; omega) (fun p hp => ⟨HPF.out _ (zip_in hp).1, HAF.out _ (zip_in hp).2⟩)
      ·have := HO'.out.lt ad.block (by rw [e]; rfl)
       exact ⟨this.2, this.1⟩
     have hbw : Below wr.heap.size wr (wr.alloc (.cells #[.int .i64 d, .slice Av k cv] 62)) := (Below.refl _ wr).alloc (Nat.le_refl _) _
     refine ⟨_, rfl, one_post hpa (fun _ _ _ => Nat.le_refl _) w.heap.size (by omega) (fun i hi => by omega), (HP4.out.below HB.out).below hbw, kept_then HK4.out (Kept.below (below_then HB.out hbw hbz))⟩
  ·have d2 : ((P.length : Int) != (A.length : Int)) = true := by simp; omega
   have hr := HR.out
   rw [if_pos (.inr hpa)] at hr
   have HR := Lib.hid hr
   clear hr hp0 hpa hdh
   go_wp2_with fail
   refine (gFail_any w3 r s3 HP3.out).mono ?_
   rintro e w4 ⟨rfl, hp4, hk4⟩
   have HP4 := Lib.hid hp4
   have HK4 := Lib.hid (kept_then HK3.out hk4)
   clear hp4 hk4
   go_wp2
   go_ret
   rw [HR.out]
   exact ⟨_, rfl, PostsO.nil _ _, HP4.out, HK4.out⟩
theorem PostsO.keptR {w w' : World} {r base : Nat} {v : Value} {L : List Pst} (h : PostsO w base v L) (hk : Kept (fun i => i = r) w w') (hr : r < base) : PostsO w' base v L := h.keepIn (fun i h1 h2 => hk.block i h2 (fun e => by omega)) hk.size
theorem gPart_any (w : World) (r : Nat) (s : PR) (h : IsPR w r s) (inside : PR → List Pst × PR) (g : Nat) (cap : Array Value) (eg : ∀ args w, (callFunc g args).run Tryz.prog w = .ok (.enter g args) w)
  (hin : ∀ w1 z, Kept (fun i => i = r) w w1 → IsPR w1 r z → Calls Tryz.prog g cap w1 (RetP r w1 (inside z))) :
  Calls Tryz.prog 166 #[at0 r, .func (.func g) #[] cap] w (RetP r w (rPart inside s)) := by
 have hlt := h.lt
 have HDOC := Lib.hid (gDoc_any w r s h)
 have HIN := Lib.hid hin
 obtain ⟨R, hR⟩ : ∃ R, R = rPart inside s := ⟨_, rfl⟩
 rw [← hR]
 unfold rPart rEnd at hR
 obtain ⟨D, hD⟩ : ∃ D, D = rDoc s := ⟨_, rfl⟩
 rw [← hD] at HDOC hR
 obtain ⟨d, s1⟩ := D
 simp only at HDOC hR
 have HR := Lib.hid hR
 clear h hin hR hD
 unfold at0
 go_enter Tryz.func166, Tryz.ntmps166
 go_wp2_with fail
 refine HDOC.out.mono ?_
 rintro e w1 ⟨rfl, hp1, hk1⟩
 have HK1 := Lib.hid hk1
 have HP1 := Lib.hid hp1
 obtain ⟨A1, n1, c1, q1, q2, q3, q4, q5⟩ := hp1.at_
 have hl1 : s1.left.length = n1 := by have := q2.2.1.len; simpa using this
 have t0 := q1.cell 0
 simp at t0
 have HNUM := Lib.hid (gNumber_any w1 r s1 hp1 n1)
 have hr := HR.out
 rw [hl1] at hr
 have hkb := rNum_le s1 n1
 obtain ⟨z, hz⟩ : ∃ z, z = rNum s1 n1 := ⟨_, rfl⟩
 rw [← hz] at hr HNUM hkb
 obtain ⟨k, z2⟩ := z
 simp only at hr HNUM hkb
 have HR := Lib.hid hr
 have hw1 : IntKind.u64.wrap (n1 : Int) = (n1 : Int) := IntWalk.u64_in _ (by omega)
 clear hk1 hp1 q1 q2 q3 q5 hl1 hr hz
 go_wp2_with fail
 refine HNUM.out.mono ?_
 rintro e w2 ⟨rfl, hp2, hk2⟩
 have HK2 := Lib.hid (kept_then HK1.out hk2)
 have HINs := Lib.hid (HIN.out w2 z2 (kept_then HK1.out hk2) hp2)
 obtain ⟨A2, n2, c2, q1, q2, q3, q4', q5⟩ := hp2.at_
 have hl2 : z2.left.length = n2 := by have := q2.2.1.len; simpa using this
 have t2 := q1.cell 0
 simp at t2
 have hz2 := hk2.size
 have hr := HR.out
 rw [hl2] at hr
 obtain ⟨q, hq⟩ : ∃ q, q = inside z2 := ⟨_, rfl⟩
 rw [← hq] at hr HINs
 have HR := Lib.hid hr
 have hw2 : IntKind.i64.wrap (k : Int) = (k : Int) := IntWalk.i64_in _ (by omega)
 have hw3 : IntKind.i64.wrap ((n2 : Int) - (k : Int)) = (n2 : Int) - (k : Int) := IntWalk.i64_in _ (by omega)
 obtain ⟨E, hE⟩ : ∃ E, E = (n2 : Int) - (k : Int) := ⟨_, rfl⟩
 have HE := Lib.hid hE
 clear hk2 hp2 q1 q2 q3 q5 hl2 hr hq t0 hE
 go_wp2_with fail
 rw [← HE.out]
 refine HINs.out.mono ?_
 rintro e w3 ⟨v3, rfl, ho3, hp3, hk3⟩
 have HK3 := Lib.hid (kept_then HK2.out hk3)
 have HO3 := Lib.hid (ho3.le (base' := w.heap.size) (by have := HK2.out.size; omega))
 have HP3 := Lib.hid hp3
 obtain ⟨A3, n3, c3, q1, q2, q3, q4', q5⟩ := hp3.at_
 have hl3 : q.2.left.length = n3 := by have := q2.2.1.len; simpa using this
 have t3 := q1.cell 0
 have t3' := q1.cell 1
 simp at t3 t3'
 have hr := HR.out
 rw [hl3, ← HE.out] at hr
 have HR := Lib.hid hr
 obtain ⟨la, hla⟩ : ∃ la, la = q.2.last := ⟨_, rfl⟩
 rw [← hla] at t3' HR
 clear ho3 hk3 hp3 q1 q2 q3 q5 hl3 hr t2 hla
 by_cases hf : la ≠ d ∨ (n3 : Int) ≠ E
 ·have hr := HR.out
  rw [if_pos hf] at hr
  have HR := Lib.hid hr
  have HF := Lib.hid hf
  clear hr hf hw3
  have fin : ∀ w4, IsPR w4 r q.2.fail ∧ Kept (fun i => i = r) w3 w4 → RetP r w R (.returned v3) w4 := fun w4 h => by
   obtain ⟨h1, h2⟩ := h
   rw [HR.out]
   exact ⟨v3, rfl, HO3.out.keptR h2 hlt, h1, kept_then HK3.out h2⟩
  have FIN := Lib.hid fin
  clear fin
  by_cases hd : la = d
  ·have d1 : (la != d) = false := by simpa using hd
   have d2 : ((n3 : Int) != E) = true := by
    rcases HF.out with h1 | h1
    ·exact absurd hd h1
    ·simpa using h1
   clear hd
   go_wp2_with fail
   refine (gFail_any w3 r q.2 HP3.out).mono ?_
   rintro e w4 ⟨rfl, h4⟩
   have H4 := Lib.hid h4
   clear h4
   go_wp2
   go_ret
   exact FIN.out _ H4.out
  ·have d1 : (la != d) = true := by simpa using hd
   clear hd
   go_wp2_with fail
   refine (gFail_any w3 r q.2 HP3.out).mono ?_
   rintro e w4 ⟨rfl, h4⟩
   have H4 := Lib.hid h4
   clear h4
   go_wp2
   go_ret
   exact FIN.out _ H4.out
 ·have hr := HR.out
  rw [if_neg hf] at hr
  have HR := Lib.hid hr
  have d1 : (la != d) = false := by
   rw [bne_eq_false_iff_eq]
   rcases Decidable.em (la = d) with h1 | h1
   ·exact h1
   ·exact absurd (.inl h1) hf
  have d2 : ((n3 : Int) != E) = false := by
   rw [bne_eq_false_iff_eq]
   rcases Decidable.em ((n3 : Int) = E) with h1 | h1
   ·exact h1
   ·exact absurd (.inr h1) hf
  clear hr hf hw3
  go_wp2
  go_ret
  rw [HR.out]
  exact ⟨v3, rfl, HO3.out, HP3.out, HK3.out⟩
theorem RetP.drew {r : Nat} {w w' : World} {x : List Pst × PR} {e : Ending} (h : RetP r w.drew x e w') : RetP r w x e w' := by
 obtain ⟨v, h1, h2, h3, h4⟩ := h
 exact ⟨v, h1, h2, h3, ⟨h4.os, h4.tape, h4.output, h4.size, h4.block⟩⟩
theorem Blk.keptR {w w' : World} {r g : Nat} {t : TypeId} {cs : Array Value} (h : Blk w g t cs) (hk : Kept (fun i => i = r) w w') (hg : g ≠ r) : Blk w' g t cs := h.kept hk hg
theorem gInP_any {w : World} {r ga ge g7 g8 g9 a e fo fa : Nat} {co ca : Array Value} {A : Option Addr} {k c : Nat} {x : List Pst × PR} (ha : Blk w ga 3 #[.int .i64 a]) (he : Blk w ge 3 #[.int .i64 e]) (h7 : Blk w g7 84 #[.func (.func fo) #[] co]) (h8 : Blk w g8 246 #[.func (.func fa) #[] ca]) (h9 : Blk w g9 52 #[.slice A k c]) (hk : 0 < k)
  (hin : Calls Tryz.prog 168 #[.int .i64 a, .int .i64 e, .func (.func fo) #[] co, .func (.func fa) #[] ca, .slice (cutAddr A 1 c) (k - 1) (c - 1)] w.drew (RetP r w x)) :
  Calls Tryz.prog 199 #[at0 ga, at0 ge, at0 g7, at0 g8, at0 g9] w (RetP r w x) := by
 have a0 := ha.drew.cell 0
 have e0 := he.drew.cell 0
 have f0 := h7.drew.cell 0
 have r0 := h8.drew.cell 0
 have s0 := h9.drew.cell 0
 simp at a0 e0 f0 r0 s0
 have hsl : ∀ w, (Instr.slice 52 (.slice A k c) (some (.int .i64 1)) none none).run Tryz.prog w = .ok (.slice (cutAddr A 1 c) (k - 1) (c - 1)) w := fun w => by
  have := ints_from w A k c 1 (by omega)
  simpa using this
 have HIN := Lib.hid hin
 clear ha he h7 h8 h9 hin
 unfold at0
 go_enter Tryz.func199, Tryz.ntmps199
 go_wp2_with fail
 go_still_tail 6, (by kernel_rfl)
 change wpList _ _ _ _ _ w.drew
 go_wp2_with fail
 refine HIN.out.mono ?_
 rintro e w2 ⟨v, rfl, ho, hp, hk⟩
 have HO := Lib.hid ho
 have HP := Lib.hid hp
 have HK := Lib.hid hk
 clear ho hp hk
 go_wp2
 go_ret
 exact ⟨v, rfl, HO.out, HP.out, HK.out⟩
theorem gPartsPS (r : Nat) (wB : World) (hrB : r < wB.heap.size) (fo fa : Nat) (co ca : Array Value) (ega : ∀ args w, (callFunc fa args).run Tryz.prog w = .ok (.enter fa args) w) (ad : Addr) (har : ad.block ≠ r) (k c s : Nat) (hk : 0 < k) (hs0 : 0 < s) (hs : s ≤ 16) (hcell : wB.cell? ad = some (.int .i64 s))
  (f t : Nat) (ht : t ≤ 4096) (P : Nat → Prop) (X : Nat → PR → List Pst × PR) (hP0 : P f) (hPs : ∀ a, P a → a < t → P (a + s)) (hXl : ∀ q z, f + q * s < t + s → (runP X f s q z).1.length ≤ 1000000)
  (hcl : ∀ (w : World) (z : PR) (a ga ge g7 g8 g9 : Nat), Kept (fun i => i = r) wB w → IsPR w r z → P a → a < t → wB.heap.size ≤ ga → wB.heap.size ≤ ge → wB.heap.size ≤ g7 → wB.heap.size ≤ g8 → wB.heap.size ≤ g9 → Blk w ga 3 #[.int .i64 a] → Blk w ge 3 #[.int .i64 (min (a + s) t : Nat)] → Blk w g7 84 #[.func (.func fo) #[] co] → Blk w g8 246 #[.func (.func fa) #[] ca] → Blk w g9 52 #[.slice (some ad) k c] →
   Calls Tryz.prog fa (#[.int .i64 a, .int .i64 (min (a + s) t : Nat), .func (.func 199) #[] #[at0 ga, at0 ge, at0 g7, at0 g8, at0 g9]] ++ ca) w (RetP r w (X a z)))
  (K : Nat) (hK1 : t ≤ f + K * s) (hK2 : f + K * s < t + s)
  (w : World) (hw : Kept (fun i => i = r) wB w) (z : PR) (hz : IsPR w r z) :
  Calls Tryz.prog 168 #[.int .i64 f, .int .i64 t, .func (.func fo) #[] co, .func (.func fa) #[] ca, .slice (some ad) k c] w (RetP r w (runP X f s K z)) := by
 obtain ⟨i2, hi2, hx0, hx1, hx2⟩ := info_parts postInfo
 have HC := Lib.hid hcell
 have HW := Lib.hid hw
 have HCL := Lib.hid hcl
 have HPS := Lib.hid hPs
 have HXL := Lib.hid hXl
 have HP0 := Lib.hid hP0
 have HZ := Lib.hid hz
 have hws := hw.size
 have d0 : ((k : Int) == 0) = false := beq_eq_false_iff_ne.2 (by omega)
 have HADR := Lib.hid har
 have HK : Hid (∀ q, f + q * s < t + s → t ≤ f + q * s → q = K) := Lib.hid fun q h1 h2 => by
  rcases Nat.lt_trichotomy q K with h3 | h3 | h3
  ·have : (q + 1) * s ≤ K * s := Nat.mul_le_mul_right s h3
   rw [Nat.succ_mul] at this
   omega
  ·exact h3
  ·have : (K + 1) * s ≤ q * s := Nat.mul_le_mul_right s h3
   rw [Nat.succ_mul] at this
   omega
 have HKB : Hid (∀ q, f + q * s < t + s → f + q * s < t → f + (q + 1) * s < t + s) := Lib.hid fun q _ h2 => by rw [Nat.succ_mul]; omega
 have HMUL : Hid (∀ q, (q + 1) * s = q * s + s) := Lib.hid fun q => Nat.succ_mul q s
 have HFK : Hid (f + 0 * s < t + s) := Lib.hid (by
  rcases Nat.eq_zero_or_pos K with h | h
  ·rw [h] at hK2; exact hK2
  ·rw [Nat.zero_mul]
   have : 1 * s ≤ K * s := Nat.mul_le_mul_right s h
   omega)
 clear hcell hw hcl hPs hXl hP0 hz har hK1 hK2
 go_enter Tryz.func168, Tryz.ntmps168
 go_wp2
 go_loopw [11, 13] (fun v p wr => ∃ (q a g : Nat) (y : List Pst) (zz : PR), p = at0 g ∧ a = f + q * s ∧ P a ∧ a < t + s ∧ (y, zz) = runP X f s q z ∧ PostsO wr (w.heap.size + 3) v y ∧ IsPR wr r zz ∧ (∀ i, v.ownBlock = some i → i ≠ g) ∧ w.heap.size + 3 ≤ g ∧ Blk wr g 3 #[.int .i64 a] ∧ Kept (fun i => i = r) w wr ∧ Blk wr w.heap.size 84 #[.func (.func fo) #[] co] ∧ Blk wr (w.heap.size + 1) 246 #[.func (.func fa) #[] ca] ∧ Blk wr (w.heap.size + 1 + 1) 52 #[.slice (some ad) k c]) (fun _ p wr => t + 16 - cellNat wr p)
 case atStart =>
  have b1 := Blk.new w 84 #[.func (.func fo) #[] co]
  have b2 := Blk.new (w.alloc (.cells #[.func (.func fo) #[] co] 84)) 246 #[.func (.func fa) #[] ca]
  have b3 := Blk.new ((w.alloc (.cells #[.func (.func fo) #[] co] 84)).alloc (.cells #[.func (.func fa) #[] ca] 246)) 52 #[.slice (some ad) k c]
  have b4 := Blk.new (((w.alloc (.cells #[.func (.func fo) #[] co] 84)).alloc (.cells #[.func (.func fa) #[] ca] 246)).alloc (.cells #[.slice (some ad) k c] 52)) 3 #[.int .i64 (f : Int)]
  simp only [World.size_alloc] at b2 b3 b4
  have hbw : Below w.heap.size w ((((w.alloc (.cells #[.func (.func fo) #[] co] 84)).alloc (.cells #[.func (.func fa) #[] ca] 246)).alloc (.cells #[.slice (some ad) k c] 52)).alloc (.cells #[.int .i64 (f : Int)] 3)) := ((((Below.refl _ w).alloc (Nat.le_refl _) _).alloc (by simp) _).alloc (by simp; omega) _).alloc (by simp; omega) _
  have hfk := HFK.out
  exact ⟨0, f, w.heap.size + 1 + 1 + 1, [], z, rfl, by rw [Nat.zero_mul]; rfl, HP0.out, by rw [Nat.zero_mul] at hfk; exact hfk, rfl, PostsO.nil _ _, HZ.out.below hbw, (fun i e => by cases e), by omega, b4, Kept.below hbw, ((b1.alloc _).alloc _).alloc _, (b2.alloc _).alloc _, b3.alloc _⟩
 case round =>
  obtain ⟨q, a, g, y, zz, rfl, ha, hp, hat, hy, hO, hZZ, hne, hg, hG, hB, h7, h8, h9⟩ := hrel
  have HA := Lib.hid ha
  have HPA := Lib.hid hp
  have HY := Lib.hid hy
  have HO := Lib.hid hO
  have HZZ := Lib.hid hZZ
  have HNE := Lib.hid hne
  have HGK := Lib.hid hG
  have HB := Lib.hid hB
  have H7 := Lib.hid h7
  have H8 := Lib.hid h8
  have H9 := Lib.hid h9
  have c0 := hG.cell 0
  have c9 := h9.cell 0
  have cs : wr.cell? ad = some (.int .i64 s) := ((kept_then HW.out hB).cell (World.block_lt_of_cell? wB ad HC.out) HADR.out).trans HC.out
  simp at c0 c9
  have hXl := HXL.out q z (by rw [← ha]; exact hat)
  rw [← hy] at hXl
  simp only at hXl
  clear ha hp hy hO hZZ hne hG hB h7 h8 h9
  obtain ⟨R0, hR0, hR1, hR2⟩ := HO.out
  obtain ⟨Av, cv, hv⟩ := own_slice hR1
  subst hv
  unfold at0
  rcases Nat.lt_or_ge a t with hlt | hge
  ·have hlt' : (a : Int) < (t : Int) := by omega
   obtain ⟨E, hE⟩ : ∃ E, E = min (a + s) t := ⟨_, rfl⟩
   have hmin : ∀ w ty, (Builtin.min_ #[3, 3] ty #[.int .i64 ((a : Int) + (s : Int)), .int .i64 (t : Int)]).run Tryz.prog w = .ok (.int .i64 (E : Int)) w := fun w ty => by
    rw [Lib.run_min_ints, show min ((a : Int) + (s : Int)) (t : Int) = (E : Int) by omega]
   have hw1 : IntKind.i64.wrap ((a : Int) + (s : Int)) = (a : Int) + (s : Int) := IntWalk.i64_in _ (by omega)
   have k0 : (0 : Int) < (k : Int) := by omega
   have a0 : ad.add 0 = ad := by simp [Addr.add]
   have HE := Lib.hid hE
   clear hE
   have u0 : (wr.alloc (.cells #[.int .i64 0] 3)).cell? ⟨g, 0, none⟩ = some (.int .i64 a) := (HGK.out.alloc _).cell 0
   have u9 : (wr.alloc (.cells #[.int .i64 0] 3)).cell? ⟨w.heap.size + 1 + 1, 0, none⟩ = some (.slice (some ad) k c) := (H9.out.alloc _).cell 0
   have us : (wr.alloc (.cells #[.int .i64 0] 3)).cell? ad = some (.int .i64 s) := below_cells ((Below.refl _ wr).alloc (Nat.le_refl _) _) cs
   clear hR0 hR1 hR2
   go_wp2_with fail
   go_region
   obtain ⟨W1, hW1⟩ : ∃ W1, W1 = (wr.alloc (.cells #[.int .i64 (E : Int)] 3)).drew := ⟨_, rfl⟩
   rw [← hW1]
   have hb1 : Below wr.heap.size wr W1 := by rw [hW1]; exact ((Below.refl _ wr).alloc (Nat.le_refl _) _).drew
   have HEK : Hid (Blk W1 wr.heap.size 3 #[.int .i64 (E : Int)]) := Lib.hid (by rw [hW1]; exact (Blk.new _ _ _).drew)
   have HB1 := Lib.hid (kept_then HB.out (Kept.below hb1))
   have HG1 := Lib.hid (HGK.out.below hb1 HGK.out.lt)
   have H71 := Lib.hid (H7.out.below hb1 H7.out.lt)
   have H81 := Lib.hid (H8.out.below hb1 H8.out.lt)
   have H91 := Lib.hid (H9.out.below hb1 H9.out.lt)
   have HO1 := Lib.hid (HO.out.below hb1)
   have HZ1 := Lib.hid (HZZ.out.below hb1)
   have HW1 := Lib.hid (kept_then HW.out HB1.out)
   have hsz1 : W1.heap.size = wr.heap.size + 1 := by rw [hW1]; simp
   have hbz := HB.out.size
   have k0 := HG1.out.cell 0
   have k7 := H71.out.cell 0
   have k8 := H81.out.cell 0
   have ke := HEK.out.cell 0
   simp at k0 k7 k8 ke
   have hx := HCL.out W1 zz a g wr.heap.size w.heap.size (w.heap.size + 1) (w.heap.size + 1 + 1) HW1.out HZ1.out HPA.out hlt (by omega) (by omega) (by omega) (by omega) (by omega) HG1.out (by rw [← HE.out]; exact HEK.out) H71.out H81.out H91.out
   rw [← HE.out] at hx
   unfold at0 at hx
   have HX := Lib.hid hx
   have hel := HXL.out (q + 1) z (by have := HMUL.out q; have := HA.out; omega)
   have hrn : runP X f s (q + 1) z = (y ++ (X a zz).1, (X a zz).2) := by
    have h1 := HY.out
    rw [runP, ← h1, ← HA.out]
   rw [hrn] at hel
   simp only [List.length_append] at hel
   have HRN := Lib.hid hrn
   obtain ⟨x, hxe⟩ : ∃ x, x = X a zz := ⟨_, rfl⟩
   rw [← hxe] at HX HRN hel
   have hps := HPS.out a HPA.out hlt
   have HPN := Lib.hid hps
   obtain ⟨x1, x2⟩ := x
   simp only at hel HRN
   clear hW1 hb1 u0 u9 us hx hrn hxe hps HO
   go_wp2_with fail
   refine HX.out.mono ?_
   rintro e w2 ⟨v2, rfl, ho2, hp2, hk2⟩
   simp only at ho2 hp2
   have hr1 : r < w.heap.size := by omega
   have HO2 := Lib.hid (HO1.out.keptR hk2 (by omega))
   have HZ2 := Lib.hid hp2
   have HB2 := Lib.hid (kept_then HB1.out hk2)
   have HG2 := Lib.hid (HG1.out.keptR hk2 (by omega))
   have H72 := Lib.hid (H71.out.keptR hk2 (by omega))
   have H82 := Lib.hid (H81.out.keptR hk2 (by omega))
   have H92 := Lib.hid (H91.out.keptR hk2 (by omega))
   have hsz2 := hk2.size
   have hgz := HGK.out.lt
   obtain ⟨R0, hR0, hR1, hR2⟩ := HO2.out
   obtain ⟨S0, hS0, hS1, hS2⟩ := ho2
   obtain ⟨A2, c2, rfl⟩ := own_slice hS1
   have hoc := own_cells hS1
   have hdo := docs_one hS0 hS2
   have HR0 := Lib.hid hR0
   have HR1 := Lib.hid hR1
   have HR2 := Lib.hid hR2
   have HS0 := Lib.hid hS0
   have HS1 := Lib.hid hS1
   have HS2 := Lib.hid hS2
   have HOC := Lib.hid hoc
   have HDO := Lib.hid hdo
   have HAB : Hid (∀ g', (Value.slice Av y.length cv).ownBlock = some g' → g' < W1.heap.size) := Lib.hid fun g' e => by
    obtain ⟨T0, -, hT1, -⟩ := HO1.out
    exact (hT1.lt g' e).2
   clear hp2 hk2 hR0 hR1 hR2 hS0 hS1 hS2 hoc hdo k0 k7 k8 ke c0 c9 cs
   go_wp2_with (at_builtin; refine wpList_append_srcN _ rfl (.tmp 46) (.tmp 51) 56 rfl (w.heap.size + 3) 62 i2 _ 2 32 Tryz.underlying56 hi2 hx0 hx1 hx2 rfl (by decide) _ y.length _ rfl HR1.out A2 x1.length c2 _ rfl HS1.out.1 HOC.out.1 HOC.out.2 HDO.out (by unfold maxLen; omega) (by omega) (by omega) ?_; intro v3 w3 hown3 hgrow3 hloc3; obtain ⟨A3, c3, hv3⟩ := own_slice hown3; subst hv3; have HO3 := Lib.hid (PostsO.cat (base2 := W1.heap.size) (by omega) HAB.out HR0.out HS0.out HR2.out HS2.out hown3 hgrow3 hloc3); have HZ3 : Hid (IsPR w3 r x2) := Lib.hid (HZ2.out.grown hgrow3 (fun i e => by have := (HR1.out.lt i e).1; omega)); have HB3 := Lib.hid (HB2.out.grown hgrow3 (fun i e => .inr (by have := (HR1.out.lt i e).1; omega))); have HG3 := Lib.hid (HG2.out.grown hgrow3 (fun e => HNE.out g e.symm rfl)); have H73 := Lib.hid (H72.out.grown hgrow3 (fun e => by have := (HR1.out.lt _ e.symm).1; omega)); have H83 := Lib.hid (H82.out.grown hgrow3 (fun e => by have := (HR1.out.lt _ e.symm).1; omega)); have H93 := Lib.hid (H92.out.grown hgrow3 (fun e => by have := (HR1.out.lt _ e.symm).1; omega)); have g0 : w3.cell? ⟨g, 0, none⟩ = some (.int .i64 (a : Int)) := HG3.out.cell 0; have u9 : (w3.alloc (.cells #[.int .i64 (a : Int)] 3)).cell? ⟨w.heap.size + 1 + 1, 0, none⟩ = some (.slice (some ad) k c) := (H93.out.alloc _).cell 0; have us : (w3.alloc (.cells #[.int .i64 (a : Int)] 3)).cell? ad = some (.int .i64 (s : Int)) := ((kept_then HW.out (HB3.out.alloc _)).cell (World.block_lt_of_cell? wB ad HC.out) HADR.out).trans HC.out; have hsz3 := HB3.out.size; have HL3 : Hid (∀ i, (Value.slice A3 (y.length + x1.length) c3).ownBlock = some i → i < w3.heap.size) := Lib.hid (fun i e => (hown3.lt i e).2); clear hown3 hgrow3 hloc3)
   go_region
   go_wp2
   go_roundw
   case rel =>
    have hg3 := HG3.out.lt
    have hbn : Below w3.heap.size w3 (w3.alloc (.cells #[.int .i64 ((a : Int) + (s : Int))] 3)).drew := ((Below.refl _ w3).alloc (Nat.le_refl _) _).drew
    refine ⟨q + 1, a + s, w3.heap.size, y ++ x1, x2, rfl, by have := HMUL.out q; have := HA.out; omega, HPN.out, by omega, HRN.out.symm, HO3.out.below hbn, HZ3.out.below hbn, ?_, by omega, ?_, kept_then HB3.out (Kept.below hbn), (H73.out.alloc _).drew, (H83.out.alloc _).drew, (H93.out.alloc _).drew⟩
    ·intro i e
     have := HL3.out i e
     omega
    ·have h1 := Blk.new w3 3 #[.int .i64 ((a : Int) + (s : Int))]
     rw [show ((a + s : Nat) : Int) = (a : Int) + (s : Int) by omega]
     exact h1.drew
   case measure =>
    have h1 := cellNat_at ((Blk.new w3 3 #[.int .i64 ((a : Int) + (s : Int))]).drew)
    have h2 := cellNat_at HGK.out
    unfold at0 at h1 h2
    show t + 16 - cellNat _ _ < t + 16 - cellNat _ _
    rw [h1, h2]
    omega
  ·have hz : ¬ ((a : Int) < (t : Int)) := by omega
   have hfin : (y, zz) = runP X f s K z := by rw [HY.out, HK.out q (by rw [← HA.out]; exact hat) (by rw [← HA.out]; exact hge)]
   have HF := Lib.hid hfin
   clear hfin hR0 hR1 hR2
   go_wp2
   go_ret
   rw [← HF.out]
   exact ⟨_, rfl, HO.out.le (by omega), HZZ.out, HB.out⟩
theorem runP_len {X : Nat → PR → List Pst × PR} {m : Nat} (h : ∀ a z, (X a z).1.length ≤ m) (f s : Nat) : ∀ q z, (runP X f s q z).1.length ≤ q * m
 | 0, z => by simp [runP]
 | q + 1, z => by
  have h1 := runP_len h f s q z
  have h2 := h (f + q * s) (runP X f s q z).2
  rw [runP, Nat.succ_mul]
  simp only [List.length_append]
  omega
theorem rPost_len (z : PR) : (rPost z).1.length ≤ 1 := by
 unfold rPost rSpots
 split <;> simp
theorem run0_len (a t : Nat) (z : PR) : (run0 a t z).1.length ≤ t - a := by
 have := runP_len (X := fun _ => rPost) (m := 1) (fun _ z => rPost_len z) a 1 (t - a) z
 unfold run0
 omega
theorem run1_len (a t : Nat) (ht : t ≤ a + 16) (z : PR) : (run1 a t z).1.length ≤ 16 := by
 have := runP_len (X := fun i => rPart (run0 i (min (i + 4) t))) (m := 4) (fun i z => by
  have := run0_len i (min (i + 4) t) (rNum (rDoc z).2 (rDoc z).2.left.length).2
  show (run0 i (min (i + 4) t) _).1.length ≤ 4
  omega) a 4 ((t - a + 3) / 4) z
 unfold run1
 omega
theorem runP_snoc (X : Nat → PR → List Pst × PR) (f s q : Nat) (z zz : PR) (y : List Pst) (h : (y, zz) = runP X f s q z) : runP X f s (q + 1) z = (y ++ (X (f + q * s) zz).1, (X (f + q * s) zz).2) := by rw [runP, ← h]
theorem gPartsP0 (r : Nat) (wB : World) (hrB : r < wB.heap.size) (fo fa : Nat) (co ca : Array Value) (ego : ∀ args w, (callFunc fo args).run Tryz.prog w = .ok (.enter fo args) w) (A : Option Addr) (c : Nat)
  (f t : Nat) (hft : f ≤ t) (ht : t ≤ 4096)
  (hon : ∀ (w : World) (z : PR) (i : Nat), Kept (fun i => i = r) wB w → IsPR w r z → f ≤ i → i < t → Calls Tryz.prog fo (#[.int .i64 i] ++ co) w (RetP r w (rPost z)))
  (w : World) (hw : Kept (fun i => i = r) wB w) (z : PR) (hz : IsPR w r z) :
  Calls Tryz.prog 168 #[.int .i64 f, .int .i64 t, .func (.func fo) #[] co, .func (.func fa) #[] ca, .slice A 0 c] w (RetP r w (run0 f t z)) := by
 obtain ⟨i2, hi2, hx0, hx1, hx2⟩ := info_parts postInfo
 have HW := Lib.hid hw
 have HON := Lib.hid hon
 have HZ := Lib.hid hz
 have hws := hw.size
 clear hw hon hz
 go_enter Tryz.func168, Tryz.ntmps168
 go_wp2
 go_loopw [11, 12] (fun v i wr => ∃ (k : Nat) (y : List Pst) (zz : PR), f + k ≤ t ∧ i = .int .i64 (f + k : Nat) ∧ (y, zz) = runP (fun _ => rPost) f 1 k z ∧ PostsO wr (w.heap.size + 3) v y ∧ IsPR wr r zz ∧ Kept (fun i => i = r) w wr ∧ w.heap.size + 3 ≤ wr.heap.size ∧ Blk wr w.heap.size 84 #[.func (.func fo) #[] co]) (fun _ i _ => t - (intOf i).toNat)
 case atStart =>
  have b1 := Blk.new w 84 #[.func (.func fo) #[] co]
  have hbw : Below w.heap.size w (((w.alloc (.cells #[.func (.func fo) #[] co] 84)).alloc (.cells #[.func (.func fa) #[] ca] 246)).alloc (.cells #[.slice A 0 c] 52)) := (((Below.refl _ w).alloc (Nat.le_refl _) _).alloc (by simp) _).alloc (by simp; omega) _
  exact ⟨0, [], z, by omega, rfl, rfl, PostsO.nil _ _, HZ.out.below hbw, Kept.below hbw, by simp, (b1.alloc _).alloc _⟩
 case round =>
  obtain ⟨k, y, zz, hk, rfl, hy, hO, hZZ, hB, hsz, h7⟩ := hrel
  have HY := Lib.hid hy
  have HO := Lib.hid hO
  have HZZ := Lib.hid hZZ
  have HB := Lib.hid hB
  have H7 := Lib.hid h7
  have c7 := h7.cell 0
  simp at c7
  have hyl := runP_len (X := fun _ => rPost) (m := 1) (fun _ z => rPost_len z) f 1 k z
  rw [← hy] at hyl
  simp only at hyl
  have hy4 : y.length ≤ 4096 := by omega
  clear hy hO hZZ hB h7 hyl
  obtain ⟨R0, hR0, hR1, hR2⟩ := HO.out
  obtain ⟨Av, cv, hv⟩ := own_slice hR1
  subst hv
  clear hR0 hR1 hR2
  obtain ⟨i, hi'⟩ : ∃ i, i = f + k := ⟨_, rfl⟩
  rw [← hi'] at hk ⊢
  rcases Nat.lt_or_ge i t with hlt | hge
  ·have hlt' : (i : Int) < (t : Int) := by omega
   have hw5 : IntKind.i64.wrap ((i : Int) + 1) = (i : Int) + 1 := IntWalk.i64_in _ (by omega)
   have hx := HON.out wr zz i (kept_then HW.out HB.out) HZZ.out (by omega) hlt
   have hrn := runP_snoc (fun _ => rPost) f 1 k z zz y HY.out
   have hxl := rPost_len zz
   obtain ⟨x, hxe⟩ : ∃ x, x = rPost zz := ⟨_, rfl⟩
   rw [← hxe] at hx hrn hxl
   obtain ⟨x1, x2⟩ := x
   simp only at hrn hxl
   have HX := Lib.hid hx
   have HRN := Lib.hid hrn
   have HI := Lib.hid hi'
   clear hx hrn hxe hi'
   go_wp2_with fail
   refine HX.out.mono ?_
   rintro e w2 ⟨v2, rfl, ho2, hp2, hk2⟩
   simp only at ho2 hp2
   have HO2 := Lib.hid (HO.out.keptR hk2 (by omega))
   have HZ2 := Lib.hid hp2
   have HB2 := Lib.hid (kept_then HB.out hk2)
   have H72 := Lib.hid (H7.out.keptR hk2 (by omega))
   have hsz2 := hk2.size
   obtain ⟨R0, hR0, hR1, hR2⟩ := HO2.out
   obtain ⟨S0, hS0, hS1, hS2⟩ := ho2
   obtain ⟨A2, c2, rfl⟩ := own_slice hS1
   have hoc := own_cells hS1
   have hdo := docs_one hS0 hS2
   have HR0 := Lib.hid hR0
   have HR1 := Lib.hid hR1
   have HR2 := Lib.hid hR2
   have HS0 := Lib.hid hS0
   have HS1 := Lib.hid hS1
   have HS2 := Lib.hid hS2
   have HOC := Lib.hid hoc
   have HDO := Lib.hid hdo
   have HAB : Hid (∀ g', (Value.slice Av y.length cv).ownBlock = some g' → g' < wr.heap.size) := Lib.hid fun g' e => by
    obtain ⟨T0, -, hT1, -⟩ := HO.out
    exact (hT1.lt g' e).2
   clear hp2 hk2 hR0 hR1 hR2 hS0 hS1 hS2 hoc hdo c7 HO
   go_wp2_with (at_builtin; refine wpList_append_srcN _ rfl (.tmp 24) (.tmp 27) 56 rfl (w.heap.size + 3) 62 i2 _ 2 32 Tryz.underlying56 hi2 hx0 hx1 hx2 rfl (by decide) _ y.length _ rfl HR1.out A2 x1.length c2 _ rfl HS1.out.1 HOC.out.1 HOC.out.2 HDO.out (by unfold maxLen; omega) (by omega) (by omega) ?_; intro v3 w3 hown3 hgrow3 hloc3; have HO3 := Lib.hid (PostsO.cat (base2 := wr.heap.size) (by omega) HAB.out HR0.out HS0.out HR2.out HS2.out hown3 hgrow3 hloc3); have HZ3 : Hid (IsPR w3 r x2) := Lib.hid (HZ2.out.grown hgrow3 (fun i e => by have := (HR1.out.lt i e).1; omega)); have HB3 := Lib.hid (HB2.out.grown hgrow3 (fun i e => .inr (by have := (HR1.out.lt i e).1; omega))); have H73 := Lib.hid (H72.out.grown hgrow3 (fun e => by have := (HR1.out.lt _ e.symm).1; omega)); have hsz3 := hgrow3.size; clear hown3 hgrow3 hloc3)
   go_roundw
   case rel =>
    exact ⟨k + 1, y ++ x1, x2, by have := HI.out; omega, by have := HI.out; go_num, HRN.out.symm, HO3.out, HZ3.out, HB3.out, by omega, H73.out⟩
   case measure => simp [intOf]; omega
  ·have hz : ¬ ((i : Int) < (t : Int)) := by omega
   have hfin : run0 f t z = (y, zz) := by unfold run0; rw [show t - f = k by omega, HY.out]
   have HF := Lib.hid hfin
   clear hfin hi'
   go_wp2
   go_ret
   rw [HF.out]
   exact ⟨_, rfl, HO.out.le (by omega), HZZ.out, HB.out⟩
theorem gOneP_any (w : World) (r b : Nat) (z : PR) (h : IsPR w r z) (hb : Blk w b 241 #[at0 r]) (i : Int) : Calls Tryz.prog 163 (#[.int .i64 i] ++ #[at0 b]) w (RetP r w (rPost z)) := by
 have HC := Lib.hid (gPost_any w r z h)
 have c0 := hb.cell 0
 simp at c0
 obtain ⟨R, hR⟩ : ∃ R, R = rPost z := ⟨_, rfl⟩
 rw [← hR] at HC ⊢
 clear h hb hR
 unfold at0 at *
 simp only [List.append_toArray, List.cons_append, List.nil_append]
 go_enter Tryz.func163, Tryz.ntmps163
 go_wp2_with fail
 refine HC.out.mono ?_
 rintro e w2 ⟨v, rfl, ho, hp, hk⟩
 have HO := Lib.hid ho
 have HP := Lib.hid hp
 have HK := Lib.hid hk
 clear ho hp hk
 go_wp2
 go_ret
 exact ⟨v, rfl, HO.out, HP.out, HK.out⟩
theorem gAroundP_any (w : World) (r b : Nat) (z : PR) (h : IsPR w r z) (hb : Blk w b 241 #[at0 r]) (f t : Int) (inside : PR → List Pst × PR) (cap : Array Value)
  (hin : ∀ w1 z, Kept (fun i => i = r) w w1 → IsPR w1 r z → Calls Tryz.prog 199 cap w1 (RetP r w1 (inside z))) :
  Calls Tryz.prog 165 (#[.int .i64 f, .int .i64 t, .func (.func 199) #[] cap] ++ #[at0 b]) w (RetP r w (rPart inside z)) := by
 have HC := Lib.hid (gPart_any w r z h inside 199 cap (enters_of Tryz.func199 (by kernel_rfl) rfl) hin)
 have c0 := hb.cell 0
 simp at c0
 obtain ⟨R, hR⟩ : ∃ R, R = rPart inside z := ⟨_, rfl⟩
 rw [← hR] at HC ⊢
 clear h hb hR hin
 unfold at0 at *
 simp only [List.append_toArray, List.cons_append, List.nil_append]
 go_enter Tryz.func165, Tryz.ntmps165
 go_wp2_with fail
 refine HC.out.mono ?_
 rintro e w2 ⟨v, rfl, ho, hp, hk⟩
 have HO := Lib.hid ho
 have HP := Lib.hid hp
 have HK := Lib.hid hk
 clear ho hp hk
 go_wp2
 go_ret
 exact ⟨v, rfl, HO.out, HP.out, HK.out⟩
theorem gLevelP1 (r : Nat) (wB : World) (hrB : r < wB.heap.size) (b : Nat) (hbr : b ≠ r) (hb : Blk wB b 241 #[at0 r]) (ad : Addr) (har : ad.block ≠ r) (hcell : wB.cell? ad = some (.int .i64 (4 : Nat)))
  (f t : Nat) (hft : f ≤ t) (ht16 : t ≤ f + 16) (ht : t ≤ 4096) (w : World) (hw : Kept (fun i => i = r) wB w) (z : PR) (hz : IsPR w r z) :
  Calls Tryz.prog 168 #[.int .i64 f, .int .i64 t, .func (.func 163) #[] #[at0 b], .func (.func 165) #[] #[at0 b], .slice (some ad) 1 1] w (RetP r w (run1 f t z)) := by
 refine gPartsPS r wB hrB 163 165 #[at0 b] #[at0 b] (enters_of Tryz.func165 (by kernel_rfl) rfl) ad har 1 1 4 (by omega) (by omega) (by omega) hcell f t ht (fun _ => True) (fun i => rPart (run0 i (min (i + 4) t))) trivial (fun _ _ _ => trivial) (fun q z hq => ?_) ?_ ((t - f + 3) / 4) (by omega) (by omega) w hw z hz
 ·have := runP_len (X := fun i => rPart (run0 i (min (i + 4) t))) (m := 4) (fun i z => by
   have := run0_len i (min (i + 4) t) (rNum (rDoc z).2 (rDoc z).2.left.length).2
   show (run0 i (min (i + 4) t) _).1.length ≤ 4
   omega) f 4 q z
  omega
 ·intro w1 z1 a ga ge g7 g8 g9 hw1 hz1 _ hat la le l7 l8 l9 ba be b7 b8 b9
  obtain ⟨E, hE⟩ : ∃ E, E = min (a + 4) t := ⟨_, rfl⟩
  rw [← hE] at be ⊢
  refine gAroundP_any w1 r b z1 hz1 (hb.keptR hw1 hbr) a E _ _ fun w2 z2 hk2 hz2 => ?_
  refine gInP_any (ba.keptR hk2 (by omega)) (be.keptR hk2 (by omega)) (b7.keptR hk2 (by omega)) (b8.keptR hk2 (by omega)) (b9.keptR hk2 (by omega)) (by omega) ?_
  have hkd : Kept (fun i => i = r) wB w2.drew := (kept_then hw1 hk2).drew
  exact (gPartsP0 r wB hrB 163 165 #[at0 b] #[at0 b] (enters_of Tryz.func163 (by kernel_rfl) rfl) _ _ a E (by omega) (by omega) (fun w3 z3 i hk3 hz3 _ _ => gOneP_any w3 r b z3 hz3 (hb.keptR hk3 hbr) i) w2.drew hkd z2 (hz2.below (below_drewN (Below.refl _ w2) 1))).mono fun _ _ h => h.drew
theorem gLevelP2 (r : Nat) (wB : World) (hrB : r < wB.heap.size) (b : Nat) (hbr : b ≠ r) (hb : Blk wB b 241 #[at0 r]) (gs : Nat) (har : gs ≠ r) (hs : Blk wB gs 3 #[.int .i64 16, .int .i64 4])
  (t : Nat) (ht : t ≤ 4096) (w : World) (hw : Kept (fun i => i = r) wB w) (z : PR) (hz : IsPR w r z) :
  Calls Tryz.prog 168 #[.int .i64 (0 : Nat), .int .i64 t, .func (.func 163) #[] #[at0 b], .func (.func 165) #[] #[at0 b], .slice (some ⟨gs, 0, none⟩) 2 2] w (RetP r w (run2 0 t z)) := by
 refine gPartsPS r wB hrB 163 165 #[at0 b] #[at0 b] (enters_of Tryz.func165 (by kernel_rfl) rfl) ⟨gs, 0, none⟩ har 2 2 16 (by omega) (by omega) (by omega) (hs.cell 0) 0 t ht (fun _ => True) (fun i => rPart (run1 i (min (i + 16) t))) trivial (fun _ _ _ => trivial) (fun q z hq => ?_) ?_ ((t - 0 + 15) / 16) (by omega) (by omega) w hw z hz
 ·have := runP_len (X := fun i => rPart (run1 i (min (i + 16) t))) (m := 16) (fun i z => by
   have := run1_len i (min (i + 16) t) (by omega) (rNum (rDoc z).2 (rDoc z).2.left.length).2
   show (run1 i (min (i + 16) t) _).1.length ≤ 16
   omega) 0 16 q z
  omega
 ·intro w1 z1 a ga ge g7 g8 g9 hw1 hz1 _ hat la le l7 l8 l9 ba be b7 b8 b9
  obtain ⟨E, hE⟩ : ∃ E, E = min (a + 16) t := ⟨_, rfl⟩
  rw [← hE] at be ⊢
  refine gAroundP_any w1 r b z1 hz1 (hb.keptR hw1 hbr) a E _ _ fun w2 z2 hk2 hz2 => ?_
  refine gInP_any (ba.keptR hk2 (by omega)) (be.keptR hk2 (by omega)) (b7.keptR hk2 (by omega)) (b8.keptR hk2 (by omega)) (b9.keptR hk2 (by omega)) (by omega) ?_
  have hkd : Kept (fun i => i = r) wB w2.drew := (kept_then hw1 hk2).drew
  rw [cutAddr_one _ _ (by omega), show (⟨gs, 0, none⟩ : Addr).add 1 = ⟨gs, 1, none⟩ by simp [Addr.add]]
  exact (gLevelP1 r wB hrB b hbr hb ⟨gs, 1, none⟩ har (hs.cell 1) a E (by omega) (by omega) (by omega) w2.drew hkd z2 (hz2.below (below_drewN (Below.refl _ w2) 1))).mono fun _ _ h => h.drew
theorem gGet_any (w : World) (A : Option Addr) (n c : Nat) (b : Nm) (hb : BytesIn w A n b) (hc : n ≤ c) (hn : n ≤ 1099511627776) : Calls Tryz.prog 121 #[.slice A n c] w (GetPOut w (getP b)) := by
 have hbl : b.length = n := by have := hb.2.1.len; simpa using this
 rw [← getM_is]
 obtain ⟨G, hG⟩ : ∃ G, G = getM b := ⟨_, rfl⟩
 rw [← hG]
 unfold getM rAll at hG
 obtain ⟨w1, hw1⟩ : ∃ w1, w1 = (w.alloc (.cells #[.slice A n c, .int .i64 (-1), .bool false] 243)).alloc (.cells #[at0 w.heap.size] 241) := ⟨_, rfl⟩
 have hb1 : Below w.heap.size w w1 := by rw [hw1]; exact ((Below.refl _ w).alloc (Nat.le_refl _) _).alloc (by simp) _
 have bR : Blk w1 w.heap.size 243 #[.slice A n c, .int .i64 (-1), .bool false] := by rw [hw1]; exact (Blk.new _ _ _).alloc _
 have bP : Blk w1 (w.heap.size + 1) 241 #[at0 w.heap.size] := by
  have := Blk.new (w.alloc (.cells #[.slice A n c, .int .i64 (-1), .bool false] 243)) 241 #[at0 w.heap.size]
  rw [World.size_alloc] at this
  rw [hw1]
  exact this
 have HP1 : Hid (IsPR w1 w.heap.size (rStart b)) := Lib.hid ⟨⟨A, n, c, bR, hb.below hb1, hc, hn, hb.2.2⟩, by unfold rStart; simp, by unfold rStart; simp⟩
 have HB1 := Lib.hid hb1
 have HBP := Lib.hid bP
 have hs1 : w1.heap.size = w.heap.size + 2 := by rw [hw1]; simp
 have c1 := bP.cell 0
 simp at c1
 have HNUM := Lib.hid (gNumber_any w1 w.heap.size (rStart b) HP1.out 4096)
 have hkb := rNum_le (rStart b) 4096
 obtain ⟨z, hz⟩ : ∃ z, z = rNum (rStart b) 4096 := ⟨_, rfl⟩
 rw [← hz] at hG HNUM hkb
 obtain ⟨m, z1⟩ := z
 simp only at hG HNUM hkb
 have HG := Lib.hid hG
 have HS1 := Lib.hid hs1
 have HW1 := Lib.hid hw1
 have hwm : IntKind.i64.wrap (m : Int) = (m : Int) := IntWalk.i64_in _ (by omega)
 clear hb hbl hG hw1 hb1 bR bP hz hs1
 unfold at0 at *
 go_enter Tryz.func121, Tryz.ntmps121
 go_wp2_with fail
 rw [← HW1.out]
 refine HNUM.out.mono ?_
 rintro e w2 ⟨rfl, hp2, hk2⟩
 have HK2 := Lib.hid hk2
 have hz2 := hk2.size
 have hb2 := HBP.out.keptR hk2 (by omega)
 have HB2 := Lib.hid hb2
 have bs := Blk.new w2 3 #[.int .i64 16, .int .i64 4]
 have hbs : Below w2.heap.size w2 (w2.alloc (.cells #[.int .i64 16, .int .i64 4] 3)) := (Below.refl _ w2).alloc (Nat.le_refl _) _
 have hsz := HS1.out
 have hlv := gLevelP2 w.heap.size (w2.alloc (.cells #[.int .i64 16, .int .i64 4] 3)) (by simp; omega) (w.heap.size + 1) (by omega) (hb2.below hbs hb2.lt) w2.heap.size (by omega) bs m (by omega) _ (Kept.refl _ _) z1 (hp2.below hbs)
 unfold at0 at hlv
 obtain ⟨Q, hQ⟩ : ∃ Q, Q = run2 0 m z1 := ⟨_, rfl⟩
 have hg := HG.out
 rw [← hQ] at hlv hg
 have HG := Lib.hid hg
 have HLV := Lib.hid hlv
 have HKs := Lib.hid (kept_then hk2 (Kept.below hbs))
 have HBs := Lib.hid (hb2.below hbs hb2.lt)
 clear hk2 hp2 hb2 bs hbs hlv hQ hg c1 HNUM hsz
 go_wp2_with fail
 refine HLV.out.mono ?_
 rintro e w3 ⟨v3, rfl, ho3, hp3, hk3⟩
 have HK3 := Lib.hid (kept_then HKs.out hk3)
 have hb3 := HBs.out.keptR hk3 (by omega)
 have hsz := HS1.out
 have HO3 : Hid (PostsO w3 w.heap.size v3 Q.1) := Lib.hid (ho3.le (by simp; omega))
 obtain ⟨A3, n3, c3, q1, q2, q3, q4, q5⟩ := hp3.at_
 have hl3 : Q.2.left.length = n3 := by have := q2.2.1.len; simpa using this
 have t0 := q1.cell 0
 have t2 := q1.cell 2
 have t1 := hb3.cell 0
 simp at t0 t1 t2
 have hg := HG.out
 rw [hl3] at hg
 obtain ⟨bd, hbd⟩ : ∃ bd, bd = Q.2.bad := ⟨_, rfl⟩
 rw [← hbd] at hg t2
 have HG := Lib.hid hg
 have HBF : Hid (Below w.heap.size w w3) := Lib.hid ⟨HK3.out.os.trans HB1.out.os, HK3.out.tape.trans HB1.out.tape, HK3.out.output.trans HB1.out.output, Nat.le_trans HB1.out.size HK3.out.size, fun i hi => (HK3.out.block i (by omega) (by omega)).trans (HB1.out.block i hi)⟩
 clear ho3 hp3 hk3 hb3 q1 q2 q3 q5 hl3 hg hbd hsz
 cases bd with
 | true =>
  have hg := HG.out
  rw [if_pos (.inl rfl)] at hg
  have HG := Lib.hid hg
  clear hg
  go_wp2
  go_ret2
  rw [HG.out]
  exact ⟨_, rfl, PostsO.nil _ _, HBF.out⟩
 | false =>
  by_cases h0 : 0 < n3
  ·have hg := HG.out
   rw [if_pos (.inr h0)] at hg
   have HG := Lib.hid hg
   have d1 : decide ((0 : Int) < (n3 : Int)) = true := decide_eq_true (by omega)
   have d1' : (0 : Int) < (n3 : Int) := by omega
   clear hg
   go_wp2
   go_ret2
   rw [HG.out]
   exact ⟨_, rfl, PostsO.nil _ _, HBF.out⟩
  ·have hg := HG.out
   rw [if_neg (by simp; omega)] at hg
   have HG := Lib.hid hg
   have d1 : decide ((0 : Int) < (n3 : Int)) = false := decide_eq_false (by omega)
   have d1' : ¬ (0 : Int) < (n3 : Int) := by omega
   clear hg
   go_wp2
   go_ret2
   rw [HG.out]
   exact ⟨v3, rfl, HO3.out, HBF.out⟩
end Go.Proofs.YthcjikpabpgpfaaGreat
namespace Go.Proofs.YthcjikpabpgpfaaGreat
def restP (l : List Pst) (P : Nat) : List UInt8 := cat (lin l) P (l.length - P)
def endP (l : List Pst) (P m : Nat) : Nat := min l.length (P + m)
def inB (l : List Pst) (P : Nat) : List UInt8 := cat (unitB l) P (endP l P 4 - P)
def inG (l : List Pst) (P : Nat) : List UInt8 := cat (linB l) P (endP l P 16 - P)
def restI (l : List Pst) (P : Nat) : List UInt8 := blockB l P ++ (inB l P ++ restP l (P + 4))
theorem rest_cut {l : List Pst} {P m : Nat} (h : P < l.length) : restP l P = cat (lin l) P (endP l P m - P) ++ restP l (P + m) := by
 unfold restP endP
 rcases Nat.lt_or_ge l.length (P + m) with h1 | h1
 ·rw [show l.length - (P + m) = 0 by omega, show min l.length (P + m) - P = l.length - P by omega]
  simp [cat]
 ·have := cat_add (lin l) P m (l.length - (P + m))
  rw [show m + (l.length - (P + m)) = l.length - P by omega] at this
  rw [show min l.length (P + m) - P = m by omega]
  exact this
theorem rest_split {l : List Pst} {P : Nat} (h : P < l.length) (h4 : P % 4 = 0) : restP l P = (if P % 16 = 0 then groupB l P else []) ++ restI l P := by
 rw [rest_cut (m := 4) h]
 unfold restI
 rw [← List.append_assoc (blockB l P), ← List.append_assoc (if P % 16 = 0 then groupB l P else [])]
 congr 1
 have hk : 0 < endP l P 4 - P := by unfold endP; omega
 have hk4 : endP l P 4 - P ≤ 4 := by unfold endP; omega
 unfold inB
 rw [← cat_block l h4 hk hk4]
 obtain ⟨k, hk'⟩ : ∃ k, endP l P 4 - P = k + 1 := ⟨endP l P 4 - P - 1, by omega⟩
 rw [hk', cat_cons, cat_cons, lin, List.append_assoc]
 congr 2
 exact cat_congr fun j h1 h2 => by rw [lin, if_neg (by omega)]; rfl
theorem group_rest {l : List Pst} {P : Nat} (h : P < l.length) (h16 : P % 16 = 0) : restI l P = inG l P ++ restP l (P + 16) := by
 have h1 := rest_split h (by omega)
 rw [if_pos h16, rest_cut (m := 16) h] at h1
 have hk : 0 < endP l P 16 - P := by unfold endP; omega
 have hk4 : endP l P 16 - P ≤ 16 := by unfold endP; omega
 rw [cat_group l h16 hk hk4, List.append_assoc] at h1
 exact (List.append_cancel_left h1).symm
def gapP (l : List Pst) (P m : Nat) : Nat := (lastD l (endP l P m) - lastD l P - 1).toNat
theorem last_end {l : List Pst} {P m : Nat} (h : P < l.length) (hm : 0 < m) : lastD l (endP l P m) = (pAt l (endP l P m - 1)).1 := by
 unfold lastD
 rw [if_neg (by unfold endP; omega)]
theorem last_mono {l : List Pst} (hV : ValidP l) {P E : Nat} (h1 : P < E) (h2 : E ≤ l.length) : lastD l P < lastD l E := by
 have h3 := hV.up P (by omega)
 have h4 := docs_mono hV (show P ≤ E - 1 by omega) (by omega)
 rw [show lastD l E = (pAt l (E - 1)).1 by unfold lastD; rw [if_neg (by omega)]]
 omega
theorem gap_is {l : List Pst} (hV : ValidP l) {P m : Nat} (h : P < l.length) (hm : 0 < m) : lastD l P + 1 + (gapP l P m : Int) = lastD l (endP l P m) ∧ gapP l P m < 2 ^ 40 := by
 have h1 := last_mono hV (P := P) (E := endP l P m) (by unfold endP; omega) (by unfold endP; omega)
 have h2 := hV.last (i := P) (by omega)
 have h3 := hV.last (i := endP l P m) (by unfold endP; omega)
 unfold gapP
 omega
theorem head_group {l : List Pst} {P : Nat} (h : P < l.length) (h16 : P % 16 = 0) : restP l P = putL (gapP l P 16) ++ (putL (inG l P).length ++ restI l P) := by
 rw [rest_split h (by omega), if_pos h16]
 unfold groupB headB gapP
 rw [last_end h (by omega), List.append_assoc]
 rfl
theorem head_block {l : List Pst} {P : Nat} (h : P < l.length) : restI l P = putL (gapP l P 4) ++ (putL (inB l P).length ++ (inB l P ++ restP l (P + 4))) := by
 unfold restI blockB headB gapP
 rw [last_end h (by omega), List.append_assoc]
 rfl
theorem rest_here {l : List Pst} {P : Nat} (h : P < l.length) (h4 : P % 4 = 0) (h16 : P % 16 ≠ 0) : restP l P = restI l P := by
 rw [rest_split h h4, if_neg h16]
 rfl
theorem inB_len {l : List Pst} (hV : ValidP l) {P : Nat} (h : P < l.length) : (inB l P).length ≤ 360000 := by
 have := units_len hV (i := P) (k := endP l P 4 - P) (by unfold endP; omega)
 unfold inB
 have h2 : endP l P 4 - P ≤ 4 := by unfold endP; omega
 omega
theorem inG_len {l : List Pst} (hV : ValidP l) {P : Nat} (h : P < l.length) : (inG l P).length ≤ 1440320 := by
 have := linBs_len hV (i := P) (k := endP l P 16 - P) (by unfold endP; omega)
 unfold inG
 have h2 : endP l P 16 - P ≤ 16 := by unfold endP; omega
 omega
theorem lastD_end (l : List Pst) (P m : Nat) : lastD l (min (P + m) l.length) = lastD l (endP l P m) := by unfold endP; rw [Nat.min_comm]
theorem less_part {l : List Pst} (hV : ValidP l) {P m : Nat} {d : Int} (h : P < l.length) (hm : 0 < m) (hd : lastD l (endP l P m) < d) : ∀ i, i < endP l P m → (pAt l i).1 < d := fun i hi => by
 rw [last_end h hm] at hd
 have := docs_mono hV (show i ≤ endP l P m - 1 by omega) (by unfold endP; omega)
 omega
theorem pAt_sl {l : List Pst} {x y i : Nat} (h : i < y - x) : pAt (sl l x y) i = pAt l (x + i) := by
 unfold sl
 rw [pAt_take h, pAt_drop]
theorem sl_len {l : List Pst} {x y : Nat} (h : y ≤ l.length) : (sl l x y).length = y - x := by
 unfold sl
 rw [List.length_take, List.length_drop]
 omega
theorem sl_drop {l : List Pst} {x y k : Nat} : (sl l x y).drop k = sl l (x + k) y := by
 unfold sl
 rw [List.drop_take, List.drop_drop, show y - x - k = y - (x + k) by omega]
end Go.Proofs.YthcjikpabpgpfaaGreat
