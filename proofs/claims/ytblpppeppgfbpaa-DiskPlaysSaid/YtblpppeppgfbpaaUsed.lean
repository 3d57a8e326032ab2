/- Used: how many bytes the directory's files have. -/
import Derived.Test.YtblpppeppgfbpaaFiles1
import Derived.Maps.RangeWalk
namespace Go.Proofs.Ytblpppeppgfbpaa
open Go.RowKit Go.Maps Go.WideMaps

def lenSum (dat : Nat → Nm) (d : Dir) : Nat := (d.map fun p => (dat p.2).length).sum
/-- The sum over those entries that f tells. -/
def partSum (dat : Nat → Nm) (f : Nm → Bool) (d : Dir) : Nat := lenSum dat (d.filter fun p => f p.1)
theorem partSum_none (dat : Nat → Nm) (f : Nm → Bool) (d : Dir) (h : ∀ p ∈ d, f p.1 = false) : partSum dat f d = 0 := by
  have : d.filter (fun p => f p.1) = [] := by
    rw [List.filter_eq_nil_iff]
    intro p hp
    simp [h p hp]
  simp [partSum, this, lenSum]
theorem partSum_all (dat : Nat → Nm) (f : Nm → Bool) (d : Dir) (h : ∀ p ∈ d, f p.1 = true) : partSum dat f d = lenSum dat d := by
  have : d.filter (fun p => f p.1) = d := List.filter_eq_self.2 fun p hp => h p hp
  simp [partSum, this]
theorem partSum_step (dat : Nat → Nm) (f g : Nm → Bool) (x : Nm) (i : Nat) : ∀ (d : Dir), d.Pairwise (fun p q => p.1 ≠ q.1) → (x, i) ∈ d → f x = false → g x = true → (∀ k, k ≠ x → g k = f k) → partSum dat g d = partSum dat f d + (dat i).length
  | [], _, h, _, _, _ => by simp at h
  | p :: r, hp, h, hf, hg, hk => by
    obtain ⟨h1, h2⟩ := List.pairwise_cons.1 hp
    rcases List.mem_cons.1 h with e | e
    · subst e
      have e1 : r.filter (fun p => g p.1) = r.filter (fun p => f p.1) := List.filter_congr fun q hq => hk _ (fun e => h1 q hq e.symm)
      simp [partSum, hf, hg, e1, lenSum]
      omega
    · have hne : p.1 ≠ x := fun e2 => h1 (x, i) e (by rw [e2])
      have ih := partSum_step dat f g x i r h2 e hf hg hk
      simp only [partSum, lenSum] at ih ⊢
      rw [List.filter_cons, List.filter_cons, hk _ hne]
      cases f p.1
      · simpa using ih
      · simp only [if_true, List.map_cons, List.sum_cons]; omega
theorem lenSum_le (dat : Nat → Nm) (M : Nat) : ∀ (d : Dir), (∀ p ∈ d, (dat p.2).length ≤ M) → lenSum dat d ≤ d.length * M
  | [], _ => by simp [lenSum]
  | p :: r, h => by
    have ih := lenSum_le dat M r (fun q hq => h q (by simp [hq]))
    have := h p (by simp)
    simp only [lenSum, List.map_cons, List.sum_cons, List.length_cons, Nat.add_mul] at ih ⊢
    omega
theorem partSum_le (dat : Nat → Nm) (f : Nm → Bool) : ∀ (d : Dir), partSum dat f d ≤ lenSum dat d
  | [] => by simp [partSum, lenSum]
  | p :: r => by
    have ih := partSum_le dat f r
    simp only [partSum, lenSum, List.filter_cons] at ih ⊢
    cases f p.1
    · simp only [Bool.false_eq_true, if_false, List.map_cons, List.sum_cons]; omega
    · simp only [if_true, List.map_cons, List.sum_cons]; omega

theorem used_le {s : St} (h : WF s) : lenSum s.dat s.now ≤ 16777216 := by
  have h1 := lenSum_le s.dat 262144 s.now (fun p hp => (h.fit _ (h.now_id p hp)).2)
  have h2 := h.nnow
  have h3 : s.now.length * 262144 ≤ 64 * 262144 := Nat.mul_le_mul_right _ h2
  omega

theorem ptr_inv {v : Value} {y : DataW Unit × List MemPlace} (h : ptrElem v = some y) : ∃ c : Option Nat, v = ptrOf c := by
  unfold ptrElem at h
  split at h
  · exact ⟨some _, rfl⟩
  · exact ⟨none, rfl⟩
  · cases h

theorem pairs_ne {d : Dir} (h : d.Pairwise (fun p q => p.1 < q.1)) : d.Pairwise (fun p q => p.1 ≠ q.1) :=
  h.imp fun {p q} hpq e => by rw [e] at hpq; exact List.lt_irrefl _ hpq

set_option maxHeartbeats 2000000 in
set_option maxRecDepth 100000 in
theorem used_any {w : World} {F : Nat → Prop} {b : Nat} {s : St} (hD : Disk w F b s) :
    Calls Try.prog 13 #[at0 b] w fun e w' => e = .returned (.int .i64 (lenSum s.dat s.now)) ∧ Below w.heap.size w w' := by
  obtain ⟨bn, bo, cv, cls, fv, hd⟩ := hD
  have c1 := hd.blk.cell 1
  simp at c1
  have hsum := used_le hd.wf
  have hpw := Lib.hid (pairs_ne (dir_sorted hd.now))
  have hnow := hd.now
  have HI := Lib.hid hd
  have hbn := hd.now.lt
  clear hd
  unfold at0
  go_enter Try.func13, Try.ntmps13
  go_wp2_with (first
    | (at_range; refine wpList_range_own _ rfl _ 67 rfl 9 62 strLaw Try.underlying67 ptrElem bn 300 (toD s.now) rfl hnow ?_; intro w0 hrg0 hg0 hs0; have HS0 := Lib.hid hs0; clear hs0)
    | go_in)
  go_frame
  go_loopw [3] (fun v wr => ∃ (left : Lit → Bool) (cnt : Nat), v = .int .i64 (partSum s.dat (fun k => !left (.string k)) s.now) ∧ wr.ranges Try.prog 9 ptrElem bn w.heap.size 300 (toD s.now) left cnt ∧ Below w.heap.size w wr)
    (fun _ wr => wr.rangeLeft bn w.heap.size)
  case atStart =>
    refine ⟨_, _, ?_, hrg0, (Below.refl _ _).grown hg0 (Nat.le_refl _) (by simp)⟩
    rw [partSum_none]
    · rfl
    · intro p hp
      rw [toD_has]
      have : (dget s.now p.1).isSome = true := by
        unfold dget
        simp only [Option.isSome_map, List.find?_isSome]
        exact ⟨p, hp, by simp⟩
      rw [this]; rfl
  case round =>
    obtain ⟨left, cnt, rfl, hrg, hbl⟩ := hrel
    have hps := partSum_le s.dat (fun k => !left (.string k)) s.now
    go_wp2_with (first
      | (at_next; refine wpList_next_ranges _ rfl _ rfl 9 strLaw ptrElem encStr ptrOf (fun key kl hk => by obtain ⟨x, hx, _⟩ := Maps.keyOf_str Try.underlying9 hk; exact ⟨x, hx⟩) (fun v y h => ptr_inv h) bn w.heap.size 300 (toD s.now) left cnt rfl hrg ?_ ?_)
      | go_in)
    · intro _ hl0
      go_wp2
      go_ret
      refine ⟨?_, hbl⟩
      rw [← partSum_all s.dat (fun k => !left (.string k)) s.now (fun p _ => by simp [hl0])]
      rfl
    · intro x c kl yd yp w1 cnt1 hkey hlk hv hat hrg1 hlt hg1 hs1 hen
      clear hs1
      obtain ⟨x', ex, rfl, _⟩ := Maps.keyOf_str Try.underlying9 hkey
      obtain rfl : x = x' := encStr_inj ex
      clear ex
      have hget : ∃ i, dget s.now x = some i ∧ yd = idLit i := by
        have h1 := hat (.lit (.bool true))
        have h2 := hat (.lit (.bool false))
        rw [toD_at] at h1 h2
        cases hg : dget s.now x with
        | none =>
          rw [hg] at h1 h2
          simp only at h1 h2
          rw [← h2] at h1
          simp [DataW.lit.injEq] at h1
        | some i =>
          rw [hg] at h1
          exact ⟨i, rfl, h1.symm⟩
      obtain ⟨i, hgi, rfl⟩ := hget
      have hc : ptrOf c = at0 i := ptrElem_inv hv
      rw [hc] at hen ⊢
      have hmem := dget_mem hgi
      have hi : i ∈ s.ids := HI.out.wf.now_id _ hmem
      have hf := HI.out.files i hi
      have hfit := HI.out.wf.fit i hi
      obtain ⟨A, cp, hsl⟩ := own_slice hf.2
      have hbl1 : Below w.heap.size w w1 := hbl.grown hg1 hbl.size (fun k hk => by cases hk; exact Nat.le_refl _)
      have f0 := (hf.1.below hbl1 hf.1.lt).cell 0
      rw [hsl] at f0
      simp at f0
      have hst := partSum_step s.dat (fun k => !left (.string k)) (fun k => !(left (.string k) && !(Lit.string k).sameKey (.string x))) x i s.now hpw.out hmem (by simp [hlk]) (by simp [Lit.sameKey]) (fun k hk => by
        have : (Lit.string k).sameKey (.string x) = false := by simpa [Lit.sameKey] using hk
        simp [this])
      have hle := partSum_le s.dat (fun k => !(left (.string k) && !(Lit.string k).sameKey (.string x))) s.now
      have HST := Lib.hid hst
      have hst' : partSum s.dat (fun k => !left (.string k)) s.now + (s.dat i).length ≤ 16777216 := by omega
      have HF := Lib.hid hf
      have HC := Lib.hid hc
      have HSL := Lib.hid hsl
      clear hst hle hf hc hsl hgi hat hv hkey
      simp only [encStr, at0] at hen ⊢
      go_wp2
      go_roundw
      case rel => exact ⟨_, cnt1, by rw [HST.out]; go_num, hrg1, hbl1⟩
      case measure => rw [hrg1.left_eq, hrg.left_eq]; exact hlt
end Go.Proofs.Ytblpppeppgfbpaa
