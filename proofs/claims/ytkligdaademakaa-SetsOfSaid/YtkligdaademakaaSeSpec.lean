/- What the laws of sets ask of the program: what a set has, and which blocks it lies in. -/
import Derived.Test.YtkligdaademakaaSeRef1
import Derived.Test.YtkligdaademakaaSeMath
import Derived.Test.YtkligdaademakaaZp6
namespace Go.Proofs.Ytkligdaademakaa
open Go.RowKit Go.Maps Go.WideMaps

def andL : List (List Int) → List Int
  | [] => []
  | x :: r => r.foldl andI x
def orL (L : List (List Int)) : List Int := L.foldl orI []
/-- A set: its pointer, what it has, its blocks. -/
structure SV where
  p : Option Addr
  l : List Int
  F : Nat → Prop
abbrev SetP := World → (Nat → Prop) → (Nat → Prop) → Option Addr → List Int → Prop
/-- A set has come back: made of what lay in F. -/
def SetOut (S : SetP) (w : World) (F G : Nat → Prop) (l : List Int) (e : Ending) (w' : World) : Prop :=
  ∃ p F', e = .returned (.pointer p) ∧ S w' F' G p l ∧ Kept F w w' ∧ ∀ b, F' b → F b ∨ w.heap.size ≤ b
/-- Sets that are handed over, in a row that is handed over too. -/
structure Args (S : SetP) (w : World) (G F : Nat → Prop) (A : Option Addr) (n : Nat) (X : List SV) : Prop where
  cells : Src w A n (X.map fun x => Value.pointer x.p)
  each : ∀ x ∈ X, S w x.F G x.p x.l
  apart : X.Pairwise fun x y => ∀ b, x.F b → ¬ y.F b
  inF : ∀ x ∈ X, ∀ b, x.F b → F b
  row : ∀ ad, A = some ad → 0 < n → F ad.block ∧ ∀ x ∈ X, ¬ x.F ad.block
  far : ∀ b, F b → ¬ G b
  lt : ∀ b, F b → b < w.heap.size
/-- The contracts of the program's sets: S w F G p l: a set that has l lies at p, in the blocks F; it reads those of G. -/
structure SetsOk (S : SetP) : Prop where
  keep : ∀ {w w' : World} {F G : Nat → Prop} {p : Option Addr} {l : List Int}, S w F G p l → (∀ b, F b ∨ G b → w'.heap[b]? = w.heap[b]?) → w.heap.size ≤ w'.heap.size → S w' F G p l
  more : ∀ {w : World} {F G G' : Nat → Prop} {p : Option Addr} {l : List Int}, S w F G p l → (∀ b, G b → G' b) → S w F G' p l
  lt : ∀ {w : World} {F G : Nat → Prop} {p : Option Addr} {l : List Int}, S w F G p l → ∀ b, F b → b < w.heap.size
  rise : ∀ {w : World} {F G : Nat → Prop} {p : Option Addr} {l : List Int}, S w F G p l → rises (-1) l = true ∧ (∀ x ∈ l, x ≤ 9223372036854775807)
  nil : ∀ {w : World} {F G : Nat → Prop} {l : List Int}, S w F G none l → l = []
  none : ∀ (w : World) (G : Nat → Prop), S w (fun _ => False) G none []
  list : ∀ (w : World) (G : Nat → Prop) (A : Option Addr) (n c : Nat) (l : List Int), IntsIn w A n l → n ≤ c → n ≤ 1000 → (∀ ad, A = some ad → 0 < n → G ad.block) → (∀ b, G b → b < w.heap.size) → Calls Try.prog 21 #[.slice A n c] w (SetOut S w (fun _ => False) G (listI l))
  all : ∀ (w : World) (G : Nat → Prop) (n : Int), n ≤ 60 → -9223372036854775808 ≤ n → (∀ b, G b → b < w.heap.size) → Calls Try.prog 30 #[.int .i64 n] w (SetOut S w (fun _ => False) G (allI n.toNat))
  and : ∀ (w : World) (G F : Nat → Prop) (A : Option Addr) (n c : Nat) (X : List SV), Args S w G F A n X → n ≤ c → n ≤ 1000 → Calls Try.prog 20 #[.slice A n c] w (SetOut S w F G (andL (X.map SV.l)))
  or : ∀ (w : World) (G F : Nat → Prop) (A : Option Addr) (n c : Nat) (X : List SV), Args S w G F A n X → n ≤ c → n ≤ 1000 → Calls Try.prog 22 #[.slice A n c] w (SetOut S w F G (orL (X.map SV.l)))
  less : ∀ (w : World) (G F1 F2 : Nat → Prop) (p q : Option Addr) (a b : List Int), S w F1 G p a → S w F2 G q b → (∀ b, F1 b → ¬ F2 b) → (∀ b, F1 b ∨ F2 b → ¬ G b) → Calls Try.prog 23 #[.pointer p, .pointer q] w (SetOut S w (fun b => F1 b ∨ F2 b) G (lessI a b))
  gather : ∀ (w : World) (F G : Nat → Prop) (p : Option Addr) (l : List Int), S w F G p l → (∀ b, F b → ¬ G b) → l.length ≤ 1000000 → Calls Try.prog 11 #[.pointer p] w fun e w' => ∃ A c, e = .returned (.slice A l.length c) ∧ l.length ≤ c ∧ IntsIn w' A l.length l ∧ (∀ ad, A = some ad → 0 < l.length → F ad.block ∨ w.heap.size ≤ ad.block) ∧ Kept F w w'
  doc : ∀ (w : World) (F G : Nat → Prop) (a : Addr) (l : List Int), S w F G (some a) l → (∀ b, F b → ¬ G b) → Calls Try.prog 14 #[.pointer (some a)] w fun e w' => e = .returned (.tuple #[.int .i64 (l.headD 0), .bool (!l.isEmpty)]) ∧ ∃ F', S w' F' G (some a) l ∧ Kept F w w' ∧ ∀ b, F' b → F b ∨ w.heap.size ≤ b
  next : ∀ (w : World) (F G : Nat → Prop) (a : Addr) (l : List Int), S w F G (some a) l → (∀ b, F b → ¬ G b) → Calls Try.prog 16 #[.pointer (some a)] w fun e w' => e = .returned (.bool (!l.tail.isEmpty)) ∧ ∃ F', S w' F' G (some a) l.tail ∧ Kept F w w' ∧ ∀ b, F' b → F b ∨ w.heap.size ≤ b
  skip : ∀ (w : World) (F G : Nat → Prop) (a : Addr) (l : List Int) (d : Int), S w F G (some a) l → (∀ b, F b → ¬ G b) → fits64 d → Calls Try.prog 18 #[.pointer (some a), .int .i64 d] w fun e w' => e = .returned (.bool (!(l.dropWhile fun x => decide (x < d)).isEmpty)) ∧ ∃ F', S w' F' G (some a) (l.dropWhile fun x => decide (x < d)) ∧ Kept F w w' ∧ ∀ b, F' b → F b ∨ w.heap.size ≤ b

/-- Sets that lie apart, since W; nobody writes in G. -/
structure Pool (S : SetP) (W w : World) (G : Nat → Prop) (L : List SV) : Prop where
  each : ∀ x ∈ L, S w x.F G x.p x.l
  apart : L.Pairwise fun x y => ∀ b, x.F b → ¬ y.F b
  far : ∀ x ∈ L, ∀ b, x.F b → ¬ G b
  old : ∀ b, b < W.heap.size → G b
  lt : ∀ b, G b → b < w.heap.size
  below : Below W.heap.size W w
section
variable {S : SetP} (hS : SetsOk S) {W w w' : World} {G H : Nat → Prop} {L M : List SV}
include hS
/-- Blocks of H have turned, and new ones have come. -/
theorem Pool.kept (h : Pool S W w G L) (hk : Kept H w w') (hH : ∀ b, H b → ¬ G b ∧ ∀ x ∈ L, ¬ x.F b) : Pool S W w' G L where
  each := fun x hx => hS.keep (h.each x hx) (fun b hb => by
    rcases hb with hb | hb
    · exact hk.block b (hS.lt (h.each x hx) b hb) (fun e => (hH b e).2 x hx hb)
    · exact hk.block b (h.lt b hb) (fun e => (hH b e).1 hb)) hk.size
  apart := h.apart
  far := h.far
  old := h.old
  lt := fun b hb => Nat.lt_of_lt_of_le (h.lt b hb) hk.size
  below := ⟨hk.os.trans h.below.os, hk.tape.trans h.below.tape, hk.output.trans h.below.output, Nat.le_trans h.below.size hk.size, fun b hb => (hk.block b (h.lt b (h.old b hb)) (fun e => (hH b e).1 (h.old b hb))).trans (h.below.block b hb)⟩
theorem Pool.later (h : Pool S W w G L) (hb : Below w.heap.size w w') : Pool S W w' G L := h.kept hS (H := fun _ => False) (Kept.below hb) (fun _ e => e.elim)
/-- One more set, made of what lay in H. -/
theorem Pool.push (h : Pool S W w G L) (hk : Kept H w w') (hH : ∀ b, H b → ¬ G b ∧ ∀ x ∈ L, ¬ x.F b) {y : SV} (hy : S w' y.F G y.p y.l) (hF : ∀ b, y.F b → H b ∨ w.heap.size ≤ b) : Pool S W w' G (L ++ [y]) := by
  have h2 := h.kept hS hk hH
  refine ⟨fun x hx => ?_, ?_, fun x hx b hb => ?_, h2.old, h2.lt, h2.below⟩
  · rcases List.mem_append.1 hx with hx | hx
    · exact h2.each x hx
    · rw [List.mem_singleton.1 hx]; exact hy
  · rw [List.pairwise_append]
    refine ⟨h.apart, by simp, fun x hx z hz b hb hzb => ?_⟩
    rw [List.mem_singleton.1 hz] at hzb
    rcases hF b hzb with h3 | h3
    · exact (hH b h3).2 x hx hb
    · have := hS.lt (h.each x hx) b hb; omega
  · rcases List.mem_append.1 hx with hx | hx
    · exact h.far x hx b hb
    · rw [List.mem_singleton.1 hx] at hb
      rcases hF b hb with h3 | h3
      · exact (hH b h3).1
      · intro e; have := h.lt b e; omega
omit hS in
theorem Pool.left (h : Pool S W w G (L ++ M)) : Pool S W w G L := ⟨fun x hx => h.each x (List.mem_append_left _ hx), (List.pairwise_append.1 h.apart).1, fun x hx => h.far x (List.mem_append_left _ hx), h.old, h.lt, h.below⟩
omit hS in
theorem Pool.right (h : Pool S W w G (L ++ M)) : Pool S W w G M := ⟨fun x hx => h.each x (List.mem_append_right _ hx), (List.pairwise_append.1 h.apart).2.1, fun x hx => h.far x (List.mem_append_right _ hx), h.old, h.lt, h.below⟩
omit hS in
theorem Pool.cross (h : Pool S W w G (L ++ M)) : ∀ x ∈ L, ∀ y ∈ M, ∀ b, x.F b → ¬ y.F b := (List.pairwise_append.1 h.apart).2.2
/-- One block more that nobody writes in. -/
theorem Pool.fix (h : Pool S W w G L) (G' : Nat → Prop) (hG : ∀ b, G b → G' b) (hx : ∀ x ∈ L, ∀ b, x.F b → ¬ G' b) (hl : ∀ b, G' b → b < w.heap.size) : Pool S W w G' L :=
  ⟨fun x hx => hS.more (h.each x hx) hG, h.apart, hx, fun b hb => hG b (h.old b hb), hl, h.below⟩
end
theorem Pool.start (S : SetP) (w : World) : Pool S w w (fun b => b < w.heap.size) [] := ⟨by simp, List.Pairwise.nil, by simp, fun _ h => h, fun _ h => h, Below.refl _ _⟩
end Go.Proofs.Ytkligdaademakaa
