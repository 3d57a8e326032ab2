/- The program's skip within a block. -/
import Derived.Test.YthmjanhdjchdbaaCvRead
import Derived.Test.YthmjanhdjchdbaaPRef1
namespace Go.Proofs.Ythmjanhdjchdbaa
open Go.RowKit Go.Maps Go.WideMaps
set_option linter.unusedSimpArgs false

set_option maxRecDepth 100000 in
theorem posts_size (w : World) : (sizeOf (Try.prog.elem 22)).run Try.prog w = .ok 2 w := by
  obtain ⟨i0, hi, hz0, hz1, hz2⟩ := info_parts postInfo
  rw [show Try.prog.elem 22 = 49 by kernel_rfl, run_sizeOf w hi]
  unfold Program.cellsOf
  rw [hi]
  simp [hz1]
set_option maxRecDepth 100000 in
theorem posts_from (w : World) (A : Option Addr) (n c p : Nat) (hp : p ≤ n) : (Instr.slice 22 (.slice A n c) (some (.int .i64 p)) none none).run Try.prog w = .ok (.slice (cutAddr2 A p c) (n - p) (c - p)) w := by
  rw [run_slice_l (P := Try.prog) (w := w) 22 A n c Try.underlying22 .i64 p (by omega) (by omega), posts_size]
  simp [Result.andThen, sliced, cutAddr2]

set_option maxHeartbeats 4000000 in
set_option maxRecDepth 100000 in
theorem cLess_any (w : World) (g : Nat) (d x : Int) (hg : Blk w g 2 #[.int .i64 d]) (B : Option Addr) (k c : Nat) : Calls Try.prog 47 #[.agg #[.int .i64 x, .slice B k c], .pointer (some ⟨g, 0, none⟩)] w fun e w' => e = .returned (.bool (decide (d ≤ x))) ∧ Below w.heap.size w w' := by
  have HB := Lib.hid ((Below.refl w.heap.size w).alloc (Nat.le_refl _) (.cells #[.int .i64 x, .slice B k c] 49))
  have c0 := (hg.alloc (.cells #[.int .i64 x, .slice B k c] 49)).cell 0
  simp only [List.getElem?_toArray, List.getElem?_cons_zero] at c0
  clear hg
  go_enter Try.func47, Try.ntmps47
  go_wp2
  go_ret
  exact ⟨rfl, HB.out⟩

/-- The first posting from a Doc on: where it is, or -1. -/
def IdxD (l : List Pst) (d : Int) (n : Nat) (r : Int) : Prop := (r = -1 ∧ ∀ i, i < n → (pAt l i).1 < d) ∨ ∃ k : Nat, r = k ∧ k < n ∧ (∀ i, i < k → (pAt l i).1 < d) ∧ d ≤ (pAt l k).1

set_option maxHeartbeats 4000000 in
set_option maxRecDepth 100000 in
theorem cIdx_any (w : World) (A : Option Addr) (n c : Nat) (l : List Pst) (h : PostsSee w A n l) (hn : n ≤ 4096) (g : Nat) (d : Int) (hg : Blk w g 2 #[.int .i64 d]) :
    Calls Try.prog 46 #[.slice A n c, .func (.func 47) #[] #[.pointer (some ⟨g, 0, none⟩)]] w fun e w' => ∃ r : Int, e = .returned (.int .i64 r) ∧ IdxD l d n r ∧ Below w.heap.size w w' := by
  have HP := Lib.hid h
  have HG := Lib.hid hg
  clear h hg
  go_enter Try.func46, Try.ntmps46
  go_wp2
  go_loopw [8] (fun i wr => ∃ k : Nat, k ≤ n ∧ i = .int .i64 k ∧ (∀ i, i < k → (pAt l i).1 < d) ∧ Below w.heap.size w wr) (fun i _ => n - (Go.RowKit.intOf i).toNat)
  case atStart => exact ⟨0, by omega, rfl, (fun i hi => by omega), Below.refl _ _⟩
  case round =>
    obtain ⟨k, hk, rfl, hmu, hB⟩ := hrel
    have HMU := Lib.hid hmu
    have HB := Lib.hid hB
    have HGR := Lib.hid (HG.out.below hB HG.out.lt)
    clear hmu hB
    rcases Nat.lt_or_ge k n with hlt | hge
    · have hlt' : (k : Int) < (n : Int) := by omega
      have p0 : (0 : Int) ≤ (k : Int) := by omega
      have hw5 : IntKind.i64.wrap ((k : Int) + 1) = (k : Int) + 1 := IntWalk.i64_in _ (by omega)
      obtain ⟨pa, x, SA, da, rfl, hx, -, a0, a1, -, -⟩ := (HP.out.below HB.out).at k hlt
      have HPX := Lib.hid (pAt_eq hx)
      obtain ⟨x1, x2⟩ := x
      simp only at a0 a1
      obtain ⟨m, hm⟩ : ∃ m, m = x2.length := ⟨_, rfl⟩
      rw [← hm] at a1
      clear hx hm
      go_wp2_with fail
      refine (cLess_any wr g d x1 HGR.out SA m da).mono ?_
      rintro e w2 ⟨rfl, hb2⟩
      have HB2 := Lib.hid (below_then HB.out hb2 HB.out.size)
      clear hb2
      by_cases hsp : d ≤ x1
      · have d1 : decide (d ≤ x1) = true := decide_eq_true hsp
        have hfin : IdxD l d n (k : Int) := .inr ⟨k, rfl, hlt, HMU.out, by rw [HPX.out]; exact hsp⟩
        have HF := Lib.hid hfin
        rw [d1]
        clear hfin
        go_wp2
        go_ret
        exact ⟨_, rfl, HF.out, HB2.out⟩
      · have d1 : decide (d ≤ x1) = false := decide_eq_false hsp
        have hnx : ∀ i, i < k + 1 → (pAt l i).1 < d := fun i hi => by
          rcases Nat.lt_or_ge i k with h1 | h1
          · exact HMU.out i h1
          · obtain rfl : i = k := by omega
            rw [HPX.out]
            simp only
            omega
        have HNX := Lib.hid hnx
        rw [d1]
        clear hnx d1
        go_wp2
        go_roundw
        case rel => exact ⟨k + 1, by omega, by go_num, HNX.out, HB2.out⟩
        case measure => simp [Go.RowKit.intOf]; omega
    · obtain rfl : k = n := by omega
      have hlz : ¬ ((k : Int) < (k : Int)) := by omega
      go_wp2
      go_ret
      exact ⟨_, rfl, .inl ⟨rfl, HMU.out⟩, HB.out⟩

/-- What skip leaves of a block's postings. -/
def SkipIn (po : List Pst) (d : Int) (t : Bool) (po' : List Pst) : Prop := (t = false ∧ (∀ i, i < po.length → (pAt po i).1 < d) ∧ po' = []) ∨ (t = true ∧ ∃ k, k < po.length ∧ (∀ i, i < k → (pAt po i).1 < d) ∧ d ≤ (pAt po k).1 ∧ po' = po.drop k)

set_option maxHeartbeats 4000000 in
set_option maxRecDepth 100000 in
theorem cBskip_any {w : World} {F : Nat → Prop} {b : Nat} {po : List Pst} {lf : Nm} {la P N r : Int} (h : CuRaw w F b po lf la P N r) (d : Int) (hpl : po.length ≤ 4096) :
    Calls Try.prog 30 #[at0 b, .int .i64 d] w fun e w' => ∃ t po', e = .returned (.bool t) ∧ SkipIn po d t po' ∧ CuRaw w' F b po' lf la P N r ∧ Kept (fun i => i = b) w w' := by
  obtain ⟨W1, hW1⟩ : ∃ W1, W1 = w.alloc (.cells #[.int .i64 d] 2) := ⟨_, rfl⟩
  have hb1 : Below w.heap.size w W1 := by rw [hW1]; exact (Below.refl _ w).alloc (Nat.le_refl _) _
  have hT1 : Blk W1 w.heap.size 2 #[.int .i64 d] := by rw [hW1]; exact Blk.new _ _ _
  obtain ⟨A, n, c, L, m, k, q1, q2⟩ := h.below hb1
  have hpn := q2.po.1.len
  have HIDX := Lib.hid (cIdx_any W1 A n c po q2.po.1 (by omega) w.heap.size d hT1)
  have HB1 := Lib.hid hb1
  have HQ1 := Lib.hid q1
  have HQ2 := Lib.hid q2
  have c0 := q1.cell 0
  simp only [List.getElem?_toArray, List.getElem?_cons_zero] at c0
  rw [hW1] at c0
  have HW1 := Lib.hid hW1
  have HPN := Lib.hid hpn
  have hcap := q2.cap
  clear h hb1 hT1 q1 q2 hW1 hpn hpl
  unfold at0
  go_enter Try.func30, Try.ntmps30
  go_wp2_with fail
  rw [← HW1.out]
  refine HIDX.out.mono ?_
  rintro e w2 ⟨r', rfl, hi, hb2⟩
  have HB2 := Lib.hid hb2
  have HQ12 := Lib.hid (HQ1.out.below hb2 HQ1.out.lt)
  have HQ22 := Lib.hid (HQ2.out.kept (Kept.below hb2))
  have y0 := HQ12.out.cell 0
  have z0 := HQ12.out.frozen 0
  simp only [List.getElem?_toArray, List.getElem?_cons_zero] at y0
  have HK2 := Lib.hid (cu_then (Kept.below (F := fun i => i = b) HB1.out) (Kept.below hb2))
  clear hb2 c0
  rcases hi with ⟨rfl, hall⟩ | ⟨K, rfl, hK, hless, hhere⟩
  · have HA := Lib.hid hall
    clear hall
    go_wp2
    go_ret
    obtain ⟨W3, hW3⟩ : ∃ W3, W3 = w2.setCell ⟨b, 0, none⟩ (.slice none 0 0) := ⟨_, rfl⟩
    have hk3 : Kept (fun i => i = b) w2 W3 := by rw [hW3]; exact cu_set (Kept.refl _ w2) 0 _
    have hb3 := HQ12.out.set_ 0 (.slice none 0 0)
    rw [← hW3] at hb3 ⊢
    have h3 := HQ22.out.kept hk3
    exact ⟨false, [], rfl, .inl ⟨rfl, by rw [HPN.out]; exact HA.out, rfl⟩, ⟨none, 0, 0, L, m, k, by simpa using hb3, ⟨PostsF.nil _ _, Nat.le_refl _, h3.lf, h3.room, h3.own, h3.low⟩⟩, cu_then HK2.out hk3⟩
  · have d1 : decide ((K : Int) < 0) = false := decide_eq_false (by omega)
    have HA := Lib.hid hless
    have HH := Lib.hid hhere
    have hsl := fun w => posts_from w A n c K (by omega)
    clear hless hhere
    go_wp2
    go_ret
    obtain ⟨W3, hW3⟩ : ∃ W3, W3 = w2.setCell ⟨b, 0, none⟩ (.slice (cutAddr2 A K c) (n - K) (c - K)) := ⟨_, rfl⟩
    have hk3 : Kept (fun i => i = b) w2 W3 := by rw [hW3]; exact cu_set (Kept.refl _ w2) 0 _
    have hb3 := HQ12.out.set_ 0 (.slice (cutAddr2 A K c) (n - K) (c - K))
    rw [← hW3] at hb3 ⊢
    have h3 := HQ22.out.kept hk3
    exact ⟨true, po.drop K, rfl, .inr ⟨rfl, K, by rw [HPN.out]; exact hK, HA.out, HH.out, rfl⟩, ⟨_, _, _, L, m, k, by simpa using hb3, ⟨h3.po.cut h3.cap (by omega), by omega, h3.lf, h3.room, h3.own, h3.low⟩⟩, cu_then HK2.out hk3⟩
end Go.Proofs.Ythmjanhdjchdbaa
