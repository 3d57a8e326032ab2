/- The landed sets: to (a set behind an interface), pass, Next, Gather. -/
import Derived.Test.YtkligdaademakaaSoSkip
namespace Go.Proofs.Ytkligdaademakaa
open Go.RowKit Go.Maps Go.WideMaps Go.Shelf
set_option linter.unusedSimpArgs false

/-- What a mover's step answers. -/
def ToOut (Q : MvP) (w : World) (F : Nat → Prop) (p : Option Addr) (l : List Int) (e : Ending) (w' : World) : Prop :=
  e = .returned (.tuple #[.int .i64 (l.headD 0), .bool (!l.isEmpty)]) ∧ ∃ F', SetLv Q w' F' p l ∧ Kept F w w' ∧ ∀ i, F' i → F i ∨ w.heap.size ≤ i
set_option maxHeartbeats 4000000 in
set_option maxRecDepth 100000 in
theorem seTo_any {Q : MvP} (hQ : MovesOk Q) {w : World} {F : Nat → Prop} {p : Option Addr} {l : List Int} (h : SetLv Q w F p l) (d : Int) (hd : fits64 d) : Calls Try.prog 43 #[.iface 28 (.pointer p), .int .i64 d] w (ToOut Q w F p (fromL d l)) := by
  have HS := Lib.hid (seSkip_any hQ h d hd)
  clear h
  have m1 : ∀ (q : Option Addr) (w : World), (method 244 28 (.pointer q) "Skip").run Try.prog w = .ok (18, .pointer q) w := fun _ _ => by kernel_rfl
  have m2 : ∀ (q : Option Addr) (w : World), (method 244 28 (.pointer q) "Doc").run Try.prog w = .ok (14, .pointer q) w := fun _ _ => by kernel_rfl
  go_enter Try.func43, Try.ntmps43
  go_wp2_with fail
  refine HS.out.mono ?_
  rintro e w1 ⟨rfl, F', h1, h2, h3⟩
  have HD := Lib.hid (seDoc_any h1)
  have HP := Lib.hid (And.intro h1 (And.intro h2 h3))
  clear h1 h2 h3
  go_wp2_with fail
  refine HD.out.mono ?_
  rintro e w2 ⟨rfl, hw⟩
  rw [hw]
  clear hw
  go_wp2
  go_ret2
  exact ⟨by simp, F', HP.out.1, HP.out.2.1, HP.out.2.2⟩
set_option maxHeartbeats 4000000 in
set_option maxRecDepth 100000 in
/-- Behind so many documents from the one on at which it is. -/
theorem sePass_any {Q : MvP} (hQ : MovesOk Q) {w : World} {F : Nat → Prop} {b : Nat} {a m : Int} {fv : Value} {l : List Int} (h : SetB Q w F b a m fv l) (hm : 0 < m) (k : Int) (hk : 0 ≤ k) (hk2 : k ≤ 9223372036854775807) : Calls Try.prog 33 #[.pointer (some ⟨b, 0, none⟩), .int .i64 k] w (SetOut2 Q w F (some ⟨b, 0, none⟩) (fromL (a + k) l)) := by
  have hrun : RunOf l a m := by
    rcases h.st with ⟨h1, _⟩ | ⟨h1, _⟩
    · omega
    · exact h1
  have hlow := hrun.low
  have hpos := hrun.pos
  have hfit := hrun.fit
  have c0 := h.blk.cell 0
  have c1 := h.blk.cell 1
  have z0 := h.blk.frozen 0
  have z1 := h.blk.frozen 1
  simp only [List.getElem?_toArray, List.getElem?_cons_zero, List.getElem?_cons_succ] at c0 c1
  have HH := Lib.hid h
  by_cases hbig : 9223372036854775807 - a < k
  · have hnil : fromL (a + k) l = [] := List.eq_nil_iff_forall_not_mem.2 fun x hx => by
      obtain ⟨q1, q2⟩ := (h.up.mem_from _ x).1 hx
      have := h.up.most x q1
      omega
    rw [hnil]
    clear hnil h hrun
    go_enter Try.func33, Try.ntmps33
    go_wp2
    go_ret
    refine ⟨rfl, F, .inr ⟨b, 0, 0, fv, rfl, SetB.ended HH.out.mem (fun i hi => ?_) ?_⟩, ((Kept.refl F w).setCell (.inl HH.out.mem) _).setCell (.inl HH.out.mem) _, fun i hi => .inl hi⟩
    · rw [size_setCell', size_setCell']; exact HH.out.lt i hi
    · simpa using (HH.out.blk.set_ 0 (.int .i64 0)).set_ 1 (.int .i64 0)
  · have HS := Lib.hid (seSkip_any hQ (p := some ⟨b, 0, none⟩) (.inr ⟨b, a, m, fv, rfl, h⟩) (a + k) (by unfold fits64; omega))
    clear h hrun
    go_enter Try.func33, Try.ntmps33
    go_wp2_with fail
    refine HS.out.mono ?_
    rintro e w1 ⟨rfl, h1⟩
    have H1 := Lib.hid h1
    clear h1
    go_wp2
    go_ret
    exact ⟨rfl, H1.out⟩
set_option maxHeartbeats 4000000 in
set_option maxRecDepth 100000 in
theorem seNext_any {Q : MvP} (hQ : MovesOk Q) {w : World} {F : Nat → Prop} {p : Option Addr} {l : List Int} (h : SetLv Q w F p l) : Calls Try.prog 16 #[.pointer p] w (SetOut2 Q w F p l.tail) := by
  have HD := Lib.hid (seDoc_any h)
  have HH := Lib.hid h
  cases l with
  | nil =>
    clear h
    go_enter Try.func16, Try.ntmps16
    go_wp2_with fail
    refine HD.out.mono ?_
    rintro e w1 ⟨rfl, hw⟩
    rw [hw]
    clear hw
    go_wp2
    go_ret
    exact ⟨rfl, F, HH.out, Kept.refl _ _, fun i hi => .inl hi⟩
  | cons x r =>
    rcases h with ⟨_, h1, _⟩ | ⟨b, a, m, fv, rfl, h⟩
    · cases h1
    · have hrun : RunOf (x :: r) a m := by
        rcases h.st with ⟨_, h1⟩ | ⟨h1, _⟩
        · cases h1
        · exact h1
      have hxa : x = a := (hrun.head h.up).1
      have hP := sePass_any hQ h hrun.pos 1 (by omega) (by omega)
      have hrt : fromL (a + 1) (x :: r) = r := by
        have hu := h.up.up
        simp only [rises, Bool.and_eq_true, decide_eq_true_eq] at hu
        rw [fromL_filter h.up.up, List.filter_cons, if_neg (by simp; omega), List.filter_eq_self]
        intro y hy
        have := rises_gt hu.2 y hy
        simp
        omega
      rw [hrt] at hP
      have HP := Lib.hid hP
      clear h hrun hxa hP hrt
      go_enter Try.func16, Try.ntmps16
      go_wp2_with fail
      refine HD.out.mono ?_
      rintro e w1 ⟨rfl, hw⟩
      rw [hw]
      clear hw
      go_wp2_with fail
      refine HP.out.mono ?_
      rintro e w1 ⟨rfl, h1⟩
      have H1 := Lib.hid h1
      clear h1
      go_wp2
      go_ret
      exact ⟨rfl, H1.out⟩
/-- A set has been made. -/
def SetMade (Q : MvP) (w : World) (F : Nat → Prop) (l : List Int) (e : Ending) (w' : World) : Prop := ∃ b F', e = .returned (.pointer (some ⟨b, 0, none⟩)) ∧ SetLv Q w' F' (some ⟨b, 0, none⟩) l ∧ Kept F w w' ∧ ∀ i, F' i → F i ∨ w.heap.size ≤ i
set_option maxHeartbeats 4000000 in
set_option maxRecDepth 100000 in
/-- A function that moves makes a set, at the first document. -/
theorem seBegin_any {Q : MvP} (hQ : MovesOk Q) {w : World} {F : Nat → Prop} {fv : Value} {M : List Int} (h : Q w F fv M) (hM : Up M) : Calls Try.prog 36 #[fv] w (SetMade Q w F M) := by
  obtain ⟨f, first, cap, rfl, hen, hcl⟩ := hQ.fn h hM
  have HC := Lib.hid (hcl 0 (by unfold fits64; omega))
  have HLT := Lib.hid (hQ.lt h)
  have HM := Lib.hid hM
  clear hcl h hM
  go_enter Try.func36, Try.ntmps36
  go_wp2_with fail
  refine HC.out.mono ?_
  rintro e w1 ⟨a, m, rfl, hk, hcase⟩
  have HK := Lib.hid hk
  have HCASE := Lib.hid hcase
  have hz := hk.size
  clear hk hcase
  go_wp2
  go_ret
  have hz2 : (w1.alloc (.cells #[.int .i64 a, .int .i64 m, .func (.func f) first cap] 71)).heap.size = w1.heap.size + 1 := by simp
  have hnew := Blk.new w1 71 #[.int .i64 a, .int .i64 m, .func (.func f) first cap]
  rcases HCASE.out with ⟨rfl, hall⟩ | ⟨hrun, G, N, hq, hun, hG, hrest⟩
  · have hnil : M = [] := List.eq_nil_iff_forall_not_mem.2 fun x hx => by
      have h1 := hall x hx
      have h2 := HM.out.pos x hx
      omega
    subst hnil
    exact ⟨w1.heap.size, fun i => i = w1.heap.size, rfl, .inr ⟨w1.heap.size, a, 0, _, rfl, SetB.ended rfl (fun i (e : i = w1.heap.size) => by omega) hnew⟩, HK.out.alloc _, fun i (e : i = w1.heap.size) => .inr (by omega)⟩
  · have hfm : fromL 0 M = M := (HM.out.from 0).ext HM.out fun x => by
      rw [HM.out.mem_from]
      exact ⟨And.left, fun h => ⟨h, HM.out.pos x h⟩⟩
    rw [hfm] at hrun
    refine ⟨w1.heap.size, fun i => G i ∨ i = w1.heap.size, rfl, .inr ⟨w1.heap.size, a, m, _, rfl, HM.out, .inr rfl, fun i hi => ?_, hnew, .inr ⟨hrun, G, N, hQ.keep hq (fun i hi => ?_) (by omega), hun, fun i hi => ⟨.inl hi, ?_⟩, fun x hx => (hrest x hx).symm⟩⟩, HK.out.alloc _, fun i hi => ?_⟩
    · rcases hi with hi | hi
      · have := hQ.lt hq i hi; omega
      · omega
    · exact Below.heap_alloc w1 _ i (hQ.lt hq i hi)
    · have := hQ.lt hq i hi; omega
    · rcases hi with hi | hi
      · exact hG i hi
      · right; omega
end Go.Proofs.Ytkligdaademakaa
