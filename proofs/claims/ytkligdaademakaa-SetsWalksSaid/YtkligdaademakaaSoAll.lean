/- The landed sets: all functions that move, level over level. -/
import Derived.Test.YtkligdaademakaaSoList
import Derived.Test.YtkligdaademakaaSoLess
namespace Go.Proofs.Ytkligdaademakaa
open Go.RowKit Go.Maps Go.WideMaps Go.Shelf
set_option linter.unusedSimpArgs false

theorem MoveOut.mono {Q Q' : MvP} (h : ∀ {w F fv M}, Q w F fv M → Q' w F fv M) {w : World} {F : Nat → Prop} {fv : Value} {M : List Int} {d : Int} (e : Ending) (w' : World) (k : MoveOut Q w F fv M d e w') : MoveOut Q' w F fv M d e w' := by
  obtain ⟨a, m, h1, h2, h3⟩ := k
  refine ⟨a, m, h1, h2, h3.imp id ?_⟩
  rintro ⟨h4, F', M', h5, h6⟩
  exact ⟨h4, F', M', h h5, h6⟩
theorem SetLv.mono {Q Q' : MvP} (h : ∀ {w F fv M}, Q w F fv M → Q' w F fv M) {w : World} {F : Nat → Prop} {p : Option Addr} {l : List Int} (k : SetLv Q w F p l) : SetLv Q' w F p l := by
  rcases k with k | ⟨b, a, m, fv, h1, h2⟩
  · exact .inl k
  · refine .inr ⟨b, a, m, fv, h1, h2.up, h2.mem, h2.lt, h2.blk, h2.st.imp id ?_⟩
    rintro ⟨h4, F', M', h5, h6⟩
    exact ⟨h4, F', M', h h5, h6⟩
theorem Kids.mono {Q Q' : MvP} (h : ∀ {w F fv M}, Q w F fv M → Q' w F fv M) {w : World} {X : List SV} (k : Kids Q w X) : Kids Q' w X := ⟨fun x hx => (k.each x hx).mono h, k.apart⟩
def NoMv : MvP := fun _ _ _ _ => False
def MvAll (Leaf Q : MvP) : MvP := fun w F fv M => Leaf w F fv M ∨ ListMv w F fv M ∨ AllMv w F fv M ∨ AndMv Q w F fv M ∨ OrMv Q w F fv M ∨ LessMv Q w F fv M
theorem MvAll.mono {Leaf Q Q' : MvP} (h : ∀ {w F fv M}, Q w F fv M → Q' w F fv M) {w : World} {F : Nat → Prop} {fv : Value} {M : List Int} (k : MvAll Leaf Q w F fv M) : MvAll Leaf Q' w F fv M := by
  rcases k with k | k | k | k | k | k
  · exact .inl k
  · exact .inr (.inl k)
  · exact .inr (.inr (.inl k))
  · obtain ⟨g, A, c, X, h1, h2, h3⟩ := k
    exact .inr (.inr (.inr (.inl ⟨g, A, c, X, h1, ⟨h2.blk, h2.src, h2.few, h2.kids.mono h, h2.inF, h2.mem, h2.row, h2.lt⟩, h3⟩)))
  · obtain ⟨g, A, c, X, h1, h2, h3⟩ := k
    exact .inr (.inr (.inr (.inr (.inl ⟨g, A, c, X, h1, ⟨h2.blk, h2.src, h2.few, h2.kids.mono h, h2.inF, h2.mem, h2.row, h2.lt⟩, h3⟩))))
  · obtain ⟨g, b, x, y, h1, h2, h3⟩ := k
    exact .inr (.inr (.inr (.inr (.inr ⟨g, b, x, y, h1, ⟨h2.blk, h2.blk2, h2.kids.mono h, h2.inF, h2.mem, h2.mem2, h2.lt⟩, h3⟩))))
theorem noMv_ok : MovesOk NoMv := ⟨fun h => h.elim, fun h => h.elim, fun h => h.elim⟩
theorem MovesOk.all {Leaf Q : MvP} (hL : MovesOk Leaf) (hQ : MovesOk Q) : MovesOk (MvAll Leaf Q) where
  keep := by
    rintro w w' F fv M (k | k | ⟨n, h1, h2, h3, h4, h5⟩ | ⟨g, A, c, X, h1, h2, h3⟩ | ⟨g, A, c, X, h1, h2, h3⟩ | ⟨g, b, x, y, h1, h2, h3⟩) hk hs
    · exact .inl (hL.keep k hk hs)
    · exact .inr (.inl (k.keep hk hs))
    · exact .inr (.inr (.inl ⟨n, h1, h2, h3, h4, fun i hi => Nat.lt_of_lt_of_le (h5 i hi) hs⟩))
    · exact .inr (.inr (.inr (.inl ⟨g, A, c, X, h1, h2.keep hQ hk hs, h3⟩)))
    · exact .inr (.inr (.inr (.inr (.inl ⟨g, A, c, X, h1, h2.keep hQ hk hs, h3⟩))))
    · exact .inr (.inr (.inr (.inr (.inr ⟨g, b, x, y, h1, h2.keep hQ hk hs, h3⟩))))
  lt := by
    rintro w F fv M (k | ⟨g, A, n, c, _, _, _, _, _, _, k, _⟩ | ⟨n, h1, h2, h3, h4, h5⟩ | ⟨g, A, c, X, h1, h2, h3⟩ | ⟨g, A, c, X, h1, h2, h3⟩ | ⟨g, b, x, y, h1, h2, h3⟩)
    · exact hL.lt k
    · exact k
    · exact h5
    · exact h2.lt
    · exact h2.lt
    · exact h2.lt
  fn := by
    rintro w F fv M (k | ⟨g, A, n, c, h1, h2, h3, h4, h5, h6, h7, h8⟩ | ⟨n, h1, h2, h3, h4, h5⟩ | ⟨g, A, c, X, h1, h2, h3, h4⟩ | ⟨g, A, c, X, h1, h2, h3⟩ | ⟨g, b, x, y, h1, h2, h3⟩) hM
    · obtain ⟨f, first, cap, h1, h2, h3⟩ := hL.fn k hM
      exact ⟨f, first, cap, h1, h2, fun d hd => (h3 d hd).mono (MoveOut.mono (fun h => .inl h))⟩
    · exact ⟨_, _, _, h1, enters_of Try.func40 (by kernel_rfl) rfl, fun d _ => by simpa using list1_any (Q := MvAll Leaf Q) (fun h => .inr (.inl h)) h1 h2 h3 h4 h5 h6 h7 h8 hM d⟩
    · exact ⟨_, _, _, h1, enters_of Try.func34 (by kernel_rfl) rfl, fun d hd => by simpa using all1_any (Q := MvAll Leaf Q) (fun h => .inr (.inr (.inl h))) h1 h2 h3 h4 h5 hM d hd⟩
    · exact ⟨_, _, _, h1, enters_of Try.func37 (by kernel_rfl) rfl, fun d hd => by simpa using and1_any (Q' := MvAll Leaf Q) hQ (fun h => .inr (.inr (.inr (.inl h)))) h1 h2 h3 h4 d hd⟩
    · exact ⟨_, _, _, h1, enters_of Try.func42 (by kernel_rfl) rfl, fun d hd => by simpa using or1_any (Q' := MvAll Leaf Q) hQ (fun h => .inr (.inr (.inr (.inr (.inl h))))) h1 h2 h3 d hd⟩
    · exact ⟨_, _, _, h1, enters_of Try.func44 (by kernel_rfl) rfl, fun d hd => by simpa using less1_any (Q' := MvAll Leaf Q) hQ (fun h => .inr (.inr (.inr (.inr (.inr h))))) h1 h2 h3 d hd⟩
/-- Level over level. -/
def QD (Leaf : MvP) : Nat → MvP
  | 0 => NoMv
  | k + 1 => MvAll Leaf (QD Leaf k)
theorem qd_ok {Leaf : MvP} (hL : MovesOk Leaf) : ∀ k, MovesOk (QD Leaf k)
  | 0 => noMv_ok
  | k + 1 => hL.all (qd_ok hL k)
theorem qd_up {Leaf : MvP} : ∀ (k : Nat) {w : World} {F : Nat → Prop} {fv : Value} {M : List Int}, QD Leaf k w F fv M → QD Leaf (k + 1) w F fv M
  | 0 => fun h => h.elim
  | k + 1 => fun h => MvAll.mono (fun h => qd_up k h) h
theorem qd_le {Leaf : MvP} {j k : Nat} (hjk : j ≤ k) {w : World} {F : Nat → Prop} {fv : Value} {M : List Int} (h : QD Leaf j w F fv M) : QD Leaf k w F fv M := by
  induction k with
  | zero => obtain rfl : j = 0 := by omega
            exact h
  | succ k ih =>
    rcases Nat.lt_or_ge j (k + 1) with h1 | h1
    · exact qd_up k (ih (by omega))
    · obtain rfl : j = k + 1 := by omega
      exact h
/-- The landed sets. -/
def S0 (Leaf : MvP) : SetP := fun w F _ p l => ∃ k, SetLv (QD Leaf k) w F p l
theorem s0_common {Leaf : MvP} {w : World} {G : Nat → Prop} : ∀ X : List SV, (∀ x ∈ X, S0 Leaf w x.F G x.p x.l) → ∃ k, ∀ x ∈ X, SetLv (QD Leaf k) w x.F x.p x.l
  | [], _ => ⟨0, by simp⟩
  | x :: r, h => by
    obtain ⟨k, hk⟩ := s0_common r (fun y hy => h y (List.mem_cons_of_mem _ hy))
    obtain ⟨j, hj⟩ := h x (List.mem_cons_self ..)
    refine ⟨max j k, fun y hy => ?_⟩
    rcases List.mem_cons.1 hy with rfl | hy
    · exact hj.mono (fun h => qd_le (by omega) h)
    · exact (hk y hy).mono (fun h => qd_le (by omega) h)
end Go.Proofs.Ytkligdaademakaa
