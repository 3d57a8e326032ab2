/- What a law does with sets that lie apart. -/
import Derived.Test.YtkligdaademakaaSeSpec
namespace Go.Proofs.Ytkligdaademakaa
open Go.RowKit Go.Maps Go.WideMaps

/-- Nothing of G has turned; G has grown. -/
def Goes (w w' : World) (G G' : Nat → Prop) : Prop := ∃ H : Nat → Prop, Kept H w w' ∧ (∀ b, H b → ¬ G b) ∧ ∀ b, G b → G' b
theorem Goes.refl (w : World) (G : Nat → Prop) : Goes w w G G := ⟨fun _ => False, Kept.refl _ _, fun _ e => e.elim, fun _ h => h⟩
theorem Goes.below {w w' : World} {G G' : Nat → Prop} (h : Below w.heap.size w w') (hG : ∀ b, G b → G' b) : Goes w w' G G' := ⟨fun _ => False, Kept.below h, fun _ e => e.elim, hG⟩
theorem Goes.then {u v w : World} {G G' G'' : Nat → Prop} (h : Goes u v G G') (k : Goes v w G' G'') : Goes u w G G'' := by
  obtain ⟨H, h1, h2, h3⟩ := h
  obtain ⟨H', k1, k2, k3⟩ := k
  exact ⟨fun b => H b ∨ H' b, (h1.mono (fun _ e => .inl e)).trans (k1.mono (fun _ e => .inr e)) (fun _ _ e => e), fun b hb hg => hb.elim (fun e => h2 b e hg) (fun e => k2 b e (h3 b hg)), fun b hb => k3 b (h3 b hb)⟩
theorem Goes.size {w w' : World} {G G' : Nat → Prop} (h : Goes w w' G G') : w.heap.size ≤ w'.heap.size := by obtain ⟨H, h1, _⟩ := h; exact h1.size
theorem Goes.block {w w' : World} {G G' : Nat → Prop} (h : Goes w w' G G') {b : Nat} (hb : G b) (hl : b < w.heap.size) : w'.heap[b]? = w.heap[b]? := by
  obtain ⟨H, h1, h2, h3⟩ := h
  exact h1.block b hl (fun e => h2 b e hb)
/-- Numbers that lie where nobody writes. -/
def Nums (G : Nat → Prop) (w : World) (A : Option Addr) (n : Nat) (l : List Int) : Prop := IntsIn w A n l ∧ ∀ ad, A = some ad → 0 < n → G ad.block
theorem Nums.goes {w w' : World} {G G' : Nat → Prop} {A : Option Addr} {n : Nat} {l : List Int} (h : Nums G w A n l) (hg : Goes w w' G G') : Nums G' w' A n l := by
  have hz := hg.size
  obtain ⟨H, h1, h2, h3⟩ := hg
  refine ⟨⟨h.1.1, h.1.2.1.keep fun ad e h0 => h1.block _ (h.1.2.2.2 ad e h0) (fun hh => h2 _ hh (h.2 ad e h0)), h.1.2.2.1, fun ad e h0 => Nat.lt_of_lt_of_le (h.1.2.2.2 ad e h0) hz⟩, fun ad e h0 => h3 _ (h.2 ad e h0)⟩

section
variable {S : SetP} (hS : SetsOk S) {W w : World} {G : Nat → Prop} {L : List SV}
include hS
/-- A set is made of numbers that lie where nobody writes. -/
theorem Pool.list (h : Pool S W w G L) {A : Option Addr} {n c : Nat} {l : List Int} (hl : Nums G w A n l) (hc : n ≤ c) (hn : n ≤ 1000) :
    Calls Try.prog 21 #[.slice A n c] w fun e w' => ∃ y : SV, e = .returned (.pointer y.p) ∧ y.l = listI l ∧ Pool S W w' G (L ++ [y]) ∧ Below w.heap.size w w' ∧ ∀ b, y.F b → w.heap.size ≤ b := by
  refine (hS.list w G A n c l hl.1 hc hn hl.2 h.lt).mono ?_
  rintro e w' ⟨p, F', rfl, h1, h2, h3⟩
  exact ⟨⟨p, listI l, F'⟩, rfl, rfl, h.push hS h2 (fun b e => e.elim) (y := ⟨p, listI l, F'⟩) h1 h3, h2.toBelow (Nat.le_refl _) (fun b e => e.elim), fun b hb => (h3 b hb).elim (fun e => e.elim) id⟩
theorem Pool.all (h : Pool S W w G L) (n : Int) (hn : n ≤ 60) (h0 : -9223372036854775808 ≤ n) :
    Calls Try.prog 30 #[.int .i64 n] w fun e w' => ∃ y : SV, e = .returned (.pointer y.p) ∧ y.l = allI n.toNat ∧ Pool S W w' G (L ++ [y]) ∧ Below w.heap.size w w' ∧ ∀ b, y.F b → w.heap.size ≤ b := by
  refine (hS.all w G n hn h0 h.lt).mono ?_
  rintro e w' ⟨p, F', rfl, h1, h2, h3⟩
  exact ⟨⟨p, _, F'⟩, rfl, rfl, h.push hS h2 (fun b e => e.elim) (y := ⟨p, _, F'⟩) h1 h3, h2.toBelow (Nat.le_refl _) (fun b e => e.elim), fun b hb => (h3 b hb).elim (fun e => e.elim) id⟩
/-- Sets that are handed over, in a row. -/
theorem Pool.args {X : List SV} (h : Pool S W w G (L ++ X)) {A : Option Addr} {n : Nat} (hA : Src w A n (X.map fun x => Value.pointer x.p)) (hr : ∀ ad, A = some ad → 0 < n → ad.block < w.heap.size ∧ ¬ G ad.block ∧ ∀ x ∈ L ++ X, ¬ x.F ad.block) :
    Args S w G (fun b => (∃ x ∈ X, x.F b) ∨ (∃ ad, A = some ad ∧ 0 < n ∧ b = ad.block)) A n X ∧ ∀ b, ((∃ x ∈ X, x.F b) ∨ (∃ ad, A = some ad ∧ 0 < n ∧ b = ad.block)) → ¬ G b ∧ ∀ x ∈ L, ¬ x.F b := by
  have hR := h.right
  refine ⟨⟨hA, hR.each, hR.apart, fun x hx b hb => .inl ⟨x, hx, hb⟩, fun ad e h0 => ⟨.inr ⟨ad, e, h0, rfl⟩, fun x hx => (hr ad e h0).2.2 x (List.mem_append_right _ hx)⟩, fun b hb => ?_, fun b hb => ?_⟩, fun b hb => ?_⟩
  · rcases hb with ⟨x, hx, hb⟩ | ⟨ad, e, h0, rfl⟩
    · exact hR.far x hx b hb
    · exact (hr ad e h0).2.1
  · rcases hb with ⟨x, hx, hb⟩ | ⟨ad, e, h0, rfl⟩
    · exact hS.lt (hR.each x hx) b hb
    · exact (hr ad e h0).1
  · rcases hb with ⟨x, hx, hb⟩ | ⟨ad, e, h0, rfl⟩
    · exact ⟨hR.far x hx b hb, fun y hy hyb => h.cross y hy x hx b hyb hb⟩
    · exact ⟨(hr ad e h0).2.1, fun y hy => (hr ad e h0).2.2 y (List.mem_append_left _ hy)⟩
/-- What And, Or leave. -/
def ManyOut (S : SetP) (W w : World) (G : Nat → Prop) (L X : List SV) (A : Option Addr) (n : Nat) (l : List Int) (e : Ending) (w' : World) : Prop :=
  ∃ y : SV, e = .returned (.pointer y.p) ∧ y.l = l ∧ Pool S W w' G (L ++ [y]) ∧ Kept (fun b => (∃ x ∈ X, x.F b) ∨ (∃ ad, A = some ad ∧ 0 < n ∧ b = ad.block)) w w' ∧ ∀ b, y.F b → ((∃ x ∈ X, x.F b) ∨ (∃ ad, A = some ad ∧ 0 < n ∧ b = ad.block)) ∨ w.heap.size ≤ b
theorem Pool.and {X : List SV} (h : Pool S W w G (L ++ X)) {A : Option Addr} {n c : Nat} (hA : Src w A n (X.map fun x => Value.pointer x.p)) (hc : n ≤ c) (hn : n ≤ 1000) (hr : ∀ ad, A = some ad → 0 < n → ad.block < w.heap.size ∧ ¬ G ad.block ∧ ∀ x ∈ L ++ X, ¬ x.F ad.block) :
    Calls Try.prog 20 #[.slice A n c] w (ManyOut S W w G L X A n (andL (X.map SV.l))) := by
  obtain ⟨h1, h2⟩ := h.args hS hA hr
  refine (hS.and w G _ A n c X h1 hc hn).mono ?_
  rintro e w' ⟨p, F', rfl, h3, h4, h5⟩
  exact ⟨⟨p, _, F'⟩, rfl, rfl, h.left.push hS h4 h2 (y := ⟨p, _, F'⟩) h3 h5, h4, h5⟩
theorem Pool.or {X : List SV} (h : Pool S W w G (L ++ X)) {A : Option Addr} {n c : Nat} (hA : Src w A n (X.map fun x => Value.pointer x.p)) (hc : n ≤ c) (hn : n ≤ 1000) (hr : ∀ ad, A = some ad → 0 < n → ad.block < w.heap.size ∧ ¬ G ad.block ∧ ∀ x ∈ L ++ X, ¬ x.F ad.block) :
    Calls Try.prog 22 #[.slice A n c] w (ManyOut S W w G L X A n (orL (X.map SV.l))) := by
  obtain ⟨h1, h2⟩ := h.args hS hA hr
  refine (hS.or w G _ A n c X h1 hc hn).mono ?_
  rintro e w' ⟨p, F', rfl, h3, h4, h5⟩
  exact ⟨⟨p, _, F'⟩, rfl, rfl, h.left.push hS h4 h2 (y := ⟨p, _, F'⟩) h3 h5, h4, h5⟩
theorem Pool.less {x y : SV} (h : Pool S W w G (L ++ [x, y])) :
    Calls Try.prog 23 #[.pointer x.p, .pointer y.p] w (ManyOut S W w G L [x, y] none 0 (lessI x.l y.l)) := by
  have hR := h.right
  have hap := hR.apart
  simp only [List.pairwise_cons, List.mem_singleton, forall_eq] at hap
  refine (hS.less w G x.F y.F x.p y.p x.l y.l (hR.each x (by simp)) (hR.each y (by simp)) hap.1 (fun b hb => hb.elim (hR.far x (by simp) b) (hR.far y (by simp) b))).mono ?_
  rintro e w' ⟨p, F', rfl, h3, h4, h5⟩
  have e1 : ∀ b, (x.F b ∨ y.F b) → ((∃ z ∈ [x, y], z.F b) ∨ (∃ ad, (none : Option Addr) = some ad ∧ 0 < 0 ∧ b = ad.block)) := fun b hb => .inl (hb.elim (fun e => ⟨x, by simp, e⟩) (fun e => ⟨y, by simp, e⟩))
  have h4' := h4.mono e1
  refine ⟨⟨p, _, F'⟩, rfl, rfl, h.left.push hS h4' (fun b hb => ?_) (y := ⟨p, _, F'⟩) h3 (fun b hb => (h5 b hb).imp (e1 b) id), h4', fun b hb => (h5 b hb).imp (e1 b) id⟩
  rcases hb with ⟨z, hz, hb⟩ | ⟨ad, e, _⟩
  · exact ⟨hR.far z hz b hb, fun v hv hvb => h.cross v hv z hz b hvb hb⟩
  · cases e
/-- All of a set: it is used up. -/
theorem Pool.gather {x : SV} (h : Pool S W w G (L ++ [x])) (hfew : x.l.length ≤ 1000000) : Calls Try.prog 11 #[.pointer x.p] w fun e w' => ∃ A c G', e = .returned (.slice A x.l.length c) ∧ x.l.length ≤ c ∧ Pool S W w' G' L ∧ Nums G' w' A x.l.length x.l ∧ Goes w w' G G' ∧ Kept x.F w w' ∧ ∀ b, G' b → G b ∨ x.F b ∨ w.heap.size ≤ b := by
  have hR := h.right
  have hx := hR.each x (by simp)
  refine (hS.gather w x.F G x.p x.l hx (hR.far x (by simp)) hfew).mono ?_
  rintro e w' ⟨A, c, rfl, h1, h2, h3, h4⟩
  have hH : ∀ b, x.F b → ¬ G b ∧ ∀ y ∈ L, ¬ y.F b := fun b hb => ⟨hR.far x (by simp) b hb, fun y hy hyb => h.cross y hy x (by simp) b hyb hb⟩
  have hP := h.left.kept hS h4 hH
  refine ⟨A, c, fun b => G b ∨ (∃ ad, A = some ad ∧ 0 < x.l.length ∧ b = ad.block), rfl, h1, hP.fix hS _ (fun b hb => .inl hb) (fun y hy b hb => ?_) (fun b hb => ?_), ⟨h2, fun ad e h0 => .inr ⟨ad, e, h0, rfl⟩⟩, ⟨x.F, h4, fun b hb => (hH b hb).1, fun b hb => .inl hb⟩, h4, fun b hb => ?_⟩
  · rintro (hg | ⟨ad, e, h0, rfl⟩)
    · exact hP.far y hy b hb hg
    · rcases h3 ad e h0 with h5 | h5
      · exact (hH _ h5).2 y hy hb
      · have := hS.lt (h.left.each y hy) _ hb; omega
  · rcases hb with hb | ⟨ad, e, h0, rfl⟩
    · exact hP.lt b hb
    · exact h2.2.2.2 ad e h0
  · rcases hb with hb | ⟨ad, e, h0, rfl⟩
    · exact .inl hb
    · exact .inr (h3 ad e h0)
omit hS in
theorem Pool.perm {L' : List SV} (h : Pool S W w G L) (hp : L.Perm L') : Pool S W w G L' :=
  ⟨fun x hx => h.each x (hp.mem_iff.2 hx), (hp.pairwise_iff (fun hxy b hb hb2 => hxy b hb2 hb)).1 h.apart, fun x hx => h.far x (hp.mem_iff.2 hx), h.old, h.lt, h.below⟩
/-- Numbers in a new block. -/
theorem Pool.nums (h : Pool S W w G L) (l : List Int) (hl : ∀ x ∈ l, -9223372036854775808 ≤ x ∧ x ≤ 9223372036854775807) (h63 : l.length ≤ maxLen) :
    Pool S W (w.alloc (.cells (l.map i64V).toArray 2)) (fun b => G b ∨ b = w.heap.size) L ∧ Nums (fun b => G b ∨ b = w.heap.size) (w.alloc (.cells (l.map i64V).toArray 2)) (some ⟨w.heap.size, 0, none⟩) l.length l ∧ Goes w (w.alloc (.cells (l.map i64V).toArray 2)) G (fun b => G b ∨ b = w.heap.size) := by
  have hb : Below w.heap.size w (w.alloc (.cells (l.map i64V).toArray 2)) := (Below.refl _ w).alloc (Nat.le_refl _) _
  refine ⟨(h.later hS hb).fix hS _ (fun b e => .inl e) (fun x hx b hxb => ?_) (fun b hb => ?_), ⟨⟨h63, ⟨by simp, fun ad e j u hu => ?_, fun e => by cases e⟩, hl, fun ad e _ => by cases e; simp⟩, fun ad e _ => by cases e; exact .inr rfl⟩, Goes.below hb (fun b e => .inl e)⟩
  · rintro (hg | rfl)
    · exact h.far x hx b hxb hg
    · have := hS.lt (h.each x hx) _ hxb; omega
  · rcases hb with hb | rfl
    · have := h.lt b hb; simp; omega
    · simp
  · cases e
    have e2 : (⟨w.heap.size, 0, none⟩ : Addr).add j = ⟨w.heap.size, j, none⟩ := by
      unfold Addr.add
      split
      · rename_i h0; rw [h0]
      · simp
    rw [e2, cell_of_row _ w.heap.size j _ 2 (0, 0) (heap_alloc_new w _)]
    simpa using hu
/-- A row of sets in a new block. -/
theorem Pool.row {X : List SV} (h : Pool S W w G (L ++ X)) : Pool S W (w.alloc (.cells (X.map fun x => Value.pointer x.p).toArray 28)) G (L ++ X) ∧ Src (w.alloc (.cells (X.map fun x => Value.pointer x.p).toArray 28)) (some ⟨w.heap.size, 0, none⟩) X.length (X.map fun x => Value.pointer x.p) ∧
    ∀ ad, some (⟨w.heap.size, 0, none⟩ : Addr) = some ad → 0 < X.length → ad.block < (w.alloc (.cells (X.map fun x => Value.pointer x.p).toArray 28)).heap.size ∧ ¬ G ad.block ∧ ∀ x ∈ L ++ X, ¬ x.F ad.block := by
  have hb : Below w.heap.size w (w.alloc (.cells (X.map fun x => Value.pointer x.p).toArray 28)) := (Below.refl _ w).alloc (Nat.le_refl _) _
  refine ⟨h.later hS hb, ⟨by simp, fun ad e j u hu => ?_, fun e => by cases e⟩, fun ad e _ => ?_⟩
  · cases e
    have e2 : (⟨w.heap.size, 0, none⟩ : Addr).add j = ⟨w.heap.size, j, none⟩ := by
      unfold Addr.add
      split
      · rename_i h0; rw [h0]
      · simp
    rw [e2, cell_of_row _ w.heap.size j _ 28 (0, 0) (heap_alloc_new w _)]
    simpa using hu
  · cases e
    exact ⟨by simp, fun hg => by have := h.lt _ hg; simp only at this; omega, fun x hx hf => by have := hS.lt (h.each x hx) _ hf; simp only at this; omega⟩
/-- And, Or of sets in a new row. -/
def RowOut (S : SetP) (W w : World) (G : Nat → Prop) (L : List SV) (l : List Int) (e : Ending) (w' : World) : Prop := ∃ y : SV, e = .returned (.pointer y.p) ∧ y.l = l ∧ Pool S W w' G (L ++ [y]) ∧ Goes w w' G G
theorem Pool.andRow {X : List SV} (h : Pool S W w G (L ++ X)) (hn : X.length ≤ 1000) : Calls Try.prog 20 #[.slice (some ⟨w.heap.size, 0, none⟩) X.length X.length] (w.alloc (.cells (X.map fun x => Value.pointer x.p).toArray 28)) (RowOut S W w G L (andL (X.map SV.l))) := by
  obtain ⟨h1, h2, h3⟩ := h.row hS
  have ha := (h1.args hS h2 h3).2
  refine (h1.and hS h2 (Nat.le_refl _) hn h3).mono ?_
  rintro e w' ⟨y, rfl, h4, h5, h6, h7⟩
  exact ⟨y, rfl, h4, h5, (Goes.below ((Below.refl _ w).alloc (Nat.le_refl _) _) (fun _ e => e)).then ⟨_, h6, fun b hb => (ha b hb).1, fun _ e => e⟩⟩
theorem Pool.orRow {X : List SV} (h : Pool S W w G (L ++ X)) (hn : X.length ≤ 1000) : Calls Try.prog 22 #[.slice (some ⟨w.heap.size, 0, none⟩) X.length X.length] (w.alloc (.cells (X.map fun x => Value.pointer x.p).toArray 28)) (RowOut S W w G L (orL (X.map SV.l))) := by
  obtain ⟨h1, h2, h3⟩ := h.row hS
  have ha := (h1.args hS h2 h3).2
  refine (h1.or hS h2 (Nat.le_refl _) hn h3).mono ?_
  rintro e w' ⟨y, rfl, h4, h5, h6, h7⟩
  exact ⟨y, rfl, h4, h5, (Goes.below ((Below.refl _ w).alloc (Nat.le_refl _) _) (fun _ e => e)).then ⟨_, h6, fun b hb => (ha b hb).1, fun _ e => e⟩⟩
theorem Pool.less2 {x y : SV} (h : Pool S W w G (L ++ [x, y])) : Calls Try.prog 23 #[.pointer x.p, .pointer y.p] w (RowOut S W w G L (lessI x.l y.l)) := by
  have hR := h.right
  refine (h.less hS).mono ?_
  rintro e w' ⟨z, rfl, h4, h5, h6, h7⟩
  refine ⟨z, rfl, h4, h5, ⟨_, h6, fun b hb => ?_, fun _ e => e⟩⟩
  rcases hb with ⟨v, hv, hb⟩ | ⟨ad, e, _⟩
  · exact hR.far v hv b hb
  · cases e
/-- A set of numbers, with what it leaves. -/
theorem Pool.list2 (h : Pool S W w G L) {A : Option Addr} {n c : Nat} {l : List Int} (hl : Nums G w A n l) (hc : n ≤ c) (hn : n ≤ 1000) : Calls Try.prog 21 #[.slice A n c] w (RowOut S W w G L (listI l)) := by
  refine (h.list hS hl hc hn).mono ?_
  rintro e w' ⟨y, rfl, h1, h2, h3, _⟩
  exact ⟨y, rfl, h1, h2, Goes.below h3 (fun _ e => e)⟩
end
end Go.Proofs.Ytkligdaademakaa
