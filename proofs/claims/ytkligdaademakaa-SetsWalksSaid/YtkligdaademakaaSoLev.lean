/- Sets in memory: what a set is, over functions that move. -/
import Derived.Test.YtkligdaademakaaSoMath
import Derived.Test.YtkligdaademakaaSePool
import Derived.Shelf.Abstract
namespace Go.Proofs.Ytkligdaademakaa
open Go.RowKit Go.Maps Go.WideMaps Go.Shelf

abbrev SP := World → (Nat → Prop) → Option Addr → List Int → Prop
abbrev MvP := World → (Nat → Prop) → Value → List Int → Prop
/-- What a function that moves leaves: the run from d on, and the rest behind it. -/
def MoveOut (Q : MvP) (w : World) (F : Nat → Prop) (fv : Value) (M : List Int) (d : Int) (e : Ending) (w' : World) : Prop :=
  ∃ a m : Int, e = .returned (.agg #[.int .i64 a, .int .i64 m]) ∧ Kept F w w' ∧
    ((m = 0 ∧ ∀ x ∈ M, x < d) ∨ (RunOf (fromL d M) a m ∧ ∃ F' M', Q w' F' fv M' ∧ Up M' ∧ (∀ i, F' i → F i ∨ w.heap.size ≤ i) ∧ ∀ x, a + m ≤ x → (x ∈ M' ↔ x ∈ M)))
/-- Functions that move. -/
structure MovesOk (Q : MvP) : Prop where
  keep : ∀ {w w' : World} {F : Nat → Prop} {fv : Value} {M : List Int}, Q w F fv M → (∀ b, F b → w'.heap[b]? = w.heap[b]?) → w.heap.size ≤ w'.heap.size → Q w' F fv M
  lt : ∀ {w : World} {F : Nat → Prop} {fv : Value} {M : List Int}, Q w F fv M → ∀ b, F b → b < w.heap.size
  fn : ∀ {w : World} {F : Nat → Prop} {fv : Value} {M : List Int}, Q w F fv M → Up M → ∃ (f : FuncId) (first cap : Array Value), fv = .func (.func f) first cap ∧ (∀ args w, (callFunc f args).run Try.prog w = .ok (.enter f args) w) ∧
    ∀ d : Int, fits64 d → Calls Try.prog f (first.push (.int .i64 d) ++ cap) w (MoveOut Q w F fv M d)
/-- What a set's cells say of what it has. -/
def Stands (Q : MvP) (w : World) (F : Nat → Prop) (b : Nat) (a m : Int) (fv : Value) (l : List Int) : Prop :=
  (m = 0 ∧ l = []) ∨ (RunOf l a m ∧ ∃ F' M, Q w F' fv M ∧ Up M ∧ (∀ i, F' i → F i ∧ i ≠ b) ∧ ∀ x, a + m ≤ x → (x ∈ l ↔ x ∈ M))
/-- A set lies in block b. -/
structure SetB (Q : MvP) (w : World) (F : Nat → Prop) (b : Nat) (a m : Int) (fv : Value) (l : List Int) : Prop where
  up : Up l
  mem : F b
  lt : ∀ i, F i → i < w.heap.size
  blk : Blk w b 71 #[.int .i64 a, .int .i64 m, fv]
  st : Stands Q w F b a m fv l
def SetLv (Q : MvP) : SP := fun w F p l => (p = none ∧ l = [] ∧ ∀ i, F i → i < w.heap.size) ∨ ∃ b a m fv, p = some ⟨b, 0, none⟩ ∧ SetB Q w F b a m fv l
theorem SetLv.lt {Q : MvP} {w : World} {F : Nat → Prop} {p : Option Addr} {l : List Int} (h : SetLv Q w F p l) : ∀ i, F i → i < w.heap.size := by
  rcases h with ⟨_, _, h⟩ | ⟨b, a, m, fv, _, h⟩
  · exact h
  · exact h.lt
theorem SetLv.up {Q : MvP} {w : World} {F : Nat → Prop} {p : Option Addr} {l : List Int} (h : SetLv Q w F p l) : Up l := by
  rcases h with ⟨_, rfl, _⟩ | ⟨b, a, m, fv, _, h⟩
  · exact Up.nil
  · exact h.up
theorem SetB.keep {Q : MvP} (hQ : MovesOk Q) {w w' : World} {F : Nat → Prop} {b : Nat} {a m : Int} {fv : Value} {l : List Int} (h : SetB Q w F b a m fv l) (hk : ∀ i, F i → w'.heap[i]? = w.heap[i]?) (hs : w.heap.size ≤ w'.heap.size) : SetB Q w' F b a m fv l where
  up := h.up
  mem := h.mem
  lt := fun i hi => Nat.lt_of_lt_of_le (h.lt i hi) hs
  blk := (hk b h.mem).trans h.blk
  st := by
    rcases h.st with h1 | ⟨h1, F', M, h2, h3, h4, h5⟩
    · exact .inl h1
    · exact .inr ⟨h1, F', M, hQ.keep h2 (fun i hi => hk i (h4 i hi).1) hs, h3, h4, h5⟩
theorem SetLv.keep {Q : MvP} (hQ : MovesOk Q) {w w' : World} {F : Nat → Prop} {p : Option Addr} {l : List Int} (h : SetLv Q w F p l) (hk : ∀ i, F i → w'.heap[i]? = w.heap[i]?) (hs : w.heap.size ≤ w'.heap.size) : SetLv Q w' F p l := by
  rcases h with ⟨h1, h2, h3⟩ | ⟨b, a, m, fv, h1, h2⟩
  · exact .inl ⟨h1, h2, fun i hi => Nat.lt_of_lt_of_le (h3 i hi) hs⟩
  · exact .inr ⟨b, a, m, fv, h1, h2.keep hQ hk hs⟩
/-- After all. -/
theorem SetB.ended {Q : MvP} {w : World} {F : Nat → Prop} {b : Nat} {fv : Value} {a : Int} (hb : F b) (hlt : ∀ i, F i → i < w.heap.size) (h : Blk w b 71 #[.int .i64 a, .int .i64 0, fv]) : SetB Q w F b a 0 fv [] := ⟨Up.nil, hb, hlt, h, .inl ⟨rfl, rfl⟩⟩
theorem MovesOk.call {Q : MvP} (hQ : MovesOk Q) {w : World} {F : Nat → Prop} {M : List Int} {f : FuncId} {first cap : Array Value} (h : Q w F (.func (.func f) first cap) M) (hM : Up M) {d : Int} (hd : fits64 d) : Calls Try.prog f (first.push (.int .i64 d) ++ cap) w (MoveOut Q w F (.func (.func f) first cap) M d) := by
  obtain ⟨f', first', cap', h1, h2, h3⟩ := hQ.fn h hM
  injection h1 with h4 h5 h6
  injection h4 with h7
  subst h7 h5 h6
  exact h3 d hd
/-- What Skip, Next leave. -/
def SetOut2 (Q : MvP) (w : World) (F : Nat → Prop) (p : Option Addr) (l : List Int) (e : Ending) (w' : World) : Prop :=
  e = .returned (.bool (!l.isEmpty)) ∧ ∃ F', SetLv Q w' F' p l ∧ Kept F w w' ∧ ∀ i, F' i → F i ∨ w.heap.size ≤ i
end Go.Proofs.Ytkligdaademakaa
