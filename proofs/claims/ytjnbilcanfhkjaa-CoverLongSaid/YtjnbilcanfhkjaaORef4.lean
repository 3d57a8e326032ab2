/- The contracts of the document's Sure, and of Same, of two that are alike. -/
import Derived.Test.YtjnbilcanfhkjaaOMath
import Derived.Deep.QuietTactic
import Derived.BigQuiet
import Derived.Deep.DeepCutAuto
namespace Go.Proofs.Ytjnbilcanfhkjaa
open Go.RowKit Go.Maps Go.WideMaps

def sureB (L : List Nm) (s : Nm) (t i : Int) : Bool := decide (0 ≤ t) && (decide (t < L.length) && (mayB (L.getD t.toNat []) s i && decide ((s.length : Int) ≤ ((L.getD t.toNat []).length : Int) - i)))
theorem r8May_quiet {w : World} (A B : Option Addr) (n m ca cb : Nat) (t s : Nm) (ha : BytesIn w A n t) (hb : BytesIn w B m s) (hca : n ≤ ca) (hcb : m ≤ cb) (i : Int) {b : Bool} (h : mayB t s i = b) {q : Nat} :
    Calls Try.prog 26 #[.slice A n ca, .slice B m cb, .int .i64 i] (w.drewN q) fun e w'' => e = .returned (.bool b) ∧ ∃ m, w'' = w.drewN m := by
  have h1 := r8May_any (w.drewN q) A B n m ca cb t s (ha.drewN q) (hb.drewN q) hca hcb i
  rw [h] at h1
  exact h1.mono fun e w'' ⟨he, q2, hw⟩ => ⟨he, q + q2, by rw [hw, World.drewN_drewN]⟩
theorem mayB_in {t s : Nm} {i : Int} (h : mayB t s i = true) : 0 ≤ i ∧ i < t.length ∧ 0 < s.length := by
  unfold mayB at h
  simp only [Bool.and_eq_true, decide_eq_true_eq] at h
  exact ⟨h.1, h.2.1, h.2.2.1⟩

set_option maxHeartbeats 4000000 in
set_option maxRecDepth 100000 in
theorem r8Sure_any (w : World) (A B : Option Addr) (n m ca cb : Nat) (L : List Nm) (s : Nm) (t i : Int) (ha : RowsSee w A n L) (hb : BytesIn w B m s) (hcb : m ≤ cb) :
    Calls Try.prog 19 #[.slice A n ca, .slice B m cb, .agg #[.int .i64 t, .int .i64 i]] w fun e w' => e = .returned (.bool (sureB L s t i)) ∧ Below w.heap.size w w' := by
  obtain ⟨W, hW⟩ : ∃ W, W = w.alloc (.cells #[.int .i64 t, .int .i64 i] 26) := ⟨_, rfl⟩
  have hB : Blk W w.heap.size 26 #[.int .i64 t, .int .i64 i] := by rw [hW]; exact Blk.new _ _ _
  have hb1 : Below w.heap.size w W := by rw [hW]; exact (Below.refl _ w).alloc (Nat.le_refl _) _
  have e0 : ∀ q, (W.drewN q).cell? ⟨w.heap.size, 0, none⟩ = some (.int .i64 t) := fun _ => hB.cell 0
  have e1 : ∀ q, (W.drewN q).cell? ⟨w.heap.size, 1, none⟩ = some (.int .i64 i) := fun _ => hB.cell 1
  have e0z := e0 0
  have e1z := e1 0
  rw [show W.drewN 0 = W from rfl] at e0z e1z
  have HA := Lib.hid (ha.below hb1)
  have HBS := Lib.hid (hb.below hb1)
  have HLA := Lib.hid ha.len
  have HB1 := Lib.hid hb1
  have hsl : s.length = m := by have := hb.2.1.len; simpa using this
  have hn63 : n ≤ 9223372036854775807 := ha.fit
  have hm63 : m ≤ 9223372036854775807 := hb.1
  obtain ⟨R, hR⟩ : ∃ R, R = sureB L s t i := ⟨_, rfl⟩
  rw [← hR]
  unfold sureB at hR
  rw [ha.len, hsl] at hR
  have HW := Lib.hid hW
  clear ha hb hb1 hB hW
  by_cases h0 : 0 ≤ t
  · have d1 : decide (t < 0) = false := decide_eq_false (by omega)
    rw [decide_eq_true h0] at hR
    by_cases hn : t < (n : Int)
    · have d2 : decide ((n : Int) ≤ t) = false := decide_eq_false (by omega)
      rw [decide_eq_true hn] at hR
      obtain ⟨T, rfl⟩ : ∃ T : Nat, t = T := ⟨t.toNat, by omega⟩
      obtain ⟨x, hx⟩ : ∃ x, L[T]? = some x := ⟨_, List.getElem?_eq_getElem (by rw [HLA.out]; omega)⟩
      obtain ⟨pa, Ax, cx, rfl, ea, ecx, ex⟩ := HA.out.at_ T x hx
      have hgd : L.getD (T : Int).toNat [] = x := by rw [Int.toNat_natCast, List.getD_eq_getElem?_getD, hx]; rfl
      rw [hgd] at hR
      simp only [Bool.true_and] at hR
      have eaq : ∀ q, (W.drewN q).cell? (pa.add T) = some (.slice Ax x.length cx) := fun _ => ea
      have hxm : x.length ≤ 9223372036854775807 := ex.1
      have EX := Lib.hid ex
      clear hx ea ex hgd
      cases hb : mayB x s i with
      | true =>
        obtain ⟨q1, q2, _⟩ := mayB_in hb
        obtain ⟨J, rfl⟩ : ∃ J : Nat, i = J := ⟨i.toNat, by omega⟩
        obtain ⟨D, hD⟩ : ∃ D, D = x.length - J := ⟨_, rfl⟩
        have hws : IntKind.i64.wrap ((x.length : Int) - (J : Int)) = (D : Int) := by rw [show (x.length : Int) - (J : Int) = (D : Int) by omega]; exact IntWalk.i64_in _ (by omega)
        obtain ⟨r, hr⟩ : ∃ r, r = decide ((m : Int) ≤ (D : Int)) := ⟨_, rfl⟩
        have d3 : decide ((m : Int) ≤ (D : Int)) = r := hr.symm
        have d3n : decide (m ≤ D) = r := by rw [hr]; simp
        have hRr : R = r := by rw [hR, hb, hr, Bool.true_and, show (x.length : Int) - (J : Int) = (D : Int) by omega]
        have HRR := Lib.hid hRr
        clear hR hRr hr hD q1 q2
        go_enter Try.func19, Try.ntmps19
        go_upto_region 3 with fail
        rw [← HW.out]
        go_quiet (first | (go_at_call 26; refine r8May_quiet Ax B x.length m cx cb x s EX.out HBS.out ecx hcb (J : Int) hb))
        go_wp2
        go_ret
        exact ⟨by rw [HRR.out]; rfl, below_drewN HB1.out _⟩
      | false =>
        have hRr : R = false := by rw [hR, hb, Bool.false_and]
        have HRR := Lib.hid hRr
        clear hR hRr
        go_enter Try.func19, Try.ntmps19
        go_upto_region 3 with fail
        rw [← HW.out]
        go_quiet (first | (go_at_call 26; refine r8May_quiet Ax B x.length m cx cb x s EX.out HBS.out ecx hcb i hb))
        go_wp2
        go_ret
        exact ⟨by rw [HRR.out]; rfl, below_drewN HB1.out _⟩
    · have d2 : decide ((n : Int) ≤ t) = true := decide_eq_true (by omega)
      rw [decide_eq_false hn] at hR
      have HRR := Lib.hid hR
      clear hR
      go_enter Try.func19, Try.ntmps19
      go_upto_region 2 with fail
      rw [← HW.out]
      go_wp2
      go_ret
      exact ⟨by rw [HRR.out]; rfl, HB1.out⟩
  · have d1 : decide (t < 0) = true := decide_eq_true (by omega)
    rw [decide_eq_false h0] at hR
    have HRR := Lib.hid hR
    clear hR
    go_enter Try.func19, Try.ntmps19
    go_upto_region 2 with fail
    rw [← HW.out]
    go_wp2
    go_ret
    exact ⟨by rw [HRR.out]; rfl, HB1.out⟩

set_option maxHeartbeats 4000000 in
set_option maxRecDepth 100000 in
theorem r8Same_any (w : World) (A B : Option Addr) (n ca cb : Nat) (l : List (Int × Int)) (ha : PairsIn w A n l) (hb : PairsIn w B n l) :
    Calls Try.prog 12 #[.slice A n ca, .slice B n cb] w fun e w' => e = .returned (.bool true) ∧ ∃ q, w' = w.drewN q := by
  have HA := Lib.hid ha
  have HB := Lib.hid hb
  have hn63 : n ≤ 9223372036854775807 := ha.fit
  have d0 : (((n : Nat) : Int) != ((n : Nat) : Int)) = false := by simp
  clear ha hb
  go_enter Try.func12, Try.ntmps12
  go_wp2
  go_loopw [5] (fun i wr => ∃ k q : Nat, k ≤ n ∧ i = .int .i64 k ∧ wr = w.drewN q) (fun i _ => n - (intOf i).toNat)
  case atStart => exact ⟨0, 0, by omega, rfl, rfl⟩
  case round =>
    obtain ⟨k, q, hk, rfl, rfl⟩ := hrel
    rcases Nat.lt_or_ge k n with hlt | hge
    · have hlt' : (k : Int) < (n : Int) := by omega
      have p0 : (0 : Int) ≤ (k : Int) := by omega
      obtain ⟨pa, p, rfl, hp, a0, a1, -, -⟩ := HA.out.at k hlt
      obtain ⟨pb, p', rfl, hp', c0, c1, -, -⟩ := HB.out.at k hlt
      obtain rfl : p = p' := by rw [hp] at hp'; exact Option.some.inj hp'
      obtain ⟨x, y⟩ := p
      simp only at a0 a1 c0 c1
      have a0' : ∀ q, (w.drewN q).cell? (pa.add (k * 2)) = some (.int .i64 x) := fun _ => a0
      have a1' : ∀ q, (w.drewN q).cell? ⟨(pa.add (k * 2)).block, (pa.add (k * 2)).off + 1, none⟩ = some (.int .i64 y) := fun _ => a1
      have c0' : ∀ q, (w.drewN q).cell? (pb.add (k * 2)) = some (.int .i64 x) := fun _ => c0
      have c1' : ∀ q, (w.drewN q).cell? ⟨(pb.add (k * 2)).block, (pb.add (k * 2)).off + 1, none⟩ = some (.int .i64 y) := fun _ => c1
      have hw5 : IntKind.i64.wrap ((k : Int) + 1) = (k : Int) + 1 := IntWalk.i64_in _ (by omega)
      clear hp hp' a0 a1 c0 c1
      go_wp2_with fail
      go_quiet (fail)
      go_wp2
      go_roundw
      case rel => exact ⟨k + 1, _, by omega, by go_num, rfl⟩
      case measure => simp [intOf]; omega
    · obtain rfl : k = n := by omega
      have hlz : ¬ ((k : Int) < (k : Int)) := by omega
      go_wp2
      go_ret
      exact ⟨rfl, _, rfl⟩
end Go.Proofs.Ytjnbilcanfhkjaa
