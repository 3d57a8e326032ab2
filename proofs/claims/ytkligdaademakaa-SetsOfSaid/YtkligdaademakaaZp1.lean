/- What a set has, by runs: plain words. Sets in memory: what a set is, over functions that move. The landed sets: run.from, Doc, Skip. The landed sets: to (a set behind an interface), pass, Next, Gather. -/
import Derived.Test.YtkligdaademakaaSeMath2
import Derived.Test.YtkligdaademakaaSePool
import Derived.Shelf.Abstract
namespace Go.Proofs.Ytkligdaademakaa

def fromL (d : Int) (l : List Int) : List Int := l.dropWhile fun x => decide (x < d)
/-- Rising, 0 or greater, within the reach. -/
structure Up (l : List Int) : Prop where
  up : rises (-1) l = true
  most : ∀ x ∈ l, x ≤ 9223372036854775807
theorem Up.nil : Up [] := ⟨rfl, by simp⟩
theorem Up.pos {l : List Int} (h : Up l) : ∀ x ∈ l, 0 ≤ x := fun x hx => by have := rises_gt h.up x hx; omega
theorem fromL_filter {l : List Int} {p d : Int} (h : rises p l = true) : fromL d l = l.filter fun x => decide (d ≤ x) := by
  induction l generalizing p with
  | nil => rfl
  | cons x r ih =>
    simp only [rises, Bool.and_eq_true, decide_eq_true_eq] at h
    unfold fromL at ih ⊢
    rw [List.dropWhile_cons, List.filter_cons]
    by_cases hx : x < d
    · rw [if_pos (by simpa using hx), if_neg (by simp; omega)]
      exact ih h.2
    · rw [if_neg (by simpa using hx), if_pos (by simp; omega)]
      congr 1
      symm
      rw [List.filter_eq_self]
      intro y hy
      have := rises_gt h.2 y hy
      simp
      omega
theorem Up.mem_from {l : List Int} (h : Up l) (d x : Int) : x ∈ fromL d l ↔ x ∈ l ∧ d ≤ x := by
  rw [fromL_filter h.up]
  simp
theorem Up.from {l : List Int} (h : Up l) (d : Int) : Up (fromL d l) := by
  rw [fromL_filter h.up]
  exact ⟨rises_filter _ h.up, fun x hx => h.most x (List.mem_filter.1 hx).1⟩
theorem Up.ext {l m : List Int} (h : Up l) (k : Up m) (he : ∀ x, x ∈ l ↔ x ∈ m) : l = m := rises_ext h.up k.up he
/-- The first one. -/
theorem Up.first {l : List Int} {a : Int} (ha : a ∈ l) (hl : ∀ x ∈ l, a ≤ x) (h : Up l) : l.headD 0 = a ∧ l.isEmpty = false := by
  cases l with
  | nil => cases ha
  | cons x r =>
    refine ⟨?_, rfl⟩
    have hu := h.up
    simp only [rises, Bool.and_eq_true, decide_eq_true_eq] at hu
    show x = a
    rcases List.mem_cons.1 ha with h1 | h1
    · exact h1.symm
    · have := rises_gt hu.2 a h1
      have := hl x (List.mem_cons_self ..)
      omega
theorem Up.head {l : List Int} (h : Up l) (hn : l.isEmpty = false) : l.headD 0 ∈ l ∧ ∀ x ∈ l, l.headD 0 ≤ x := by
  cases l with
  | nil => cases hn
  | cons x r =>
    refine ⟨List.mem_cons_self .., fun y hy => ?_⟩
    have hu := h.up
    simp only [rises, Bool.and_eq_true, decide_eq_true_eq] at hu
    show x ≤ y
    rcases List.mem_cons.1 hy with h1 | h1
    · omega
    · have := rises_gt hu.2 y h1; omega
theorem Up.andI {a b : List Int} (h : Up a) : Up (andI a b) := ⟨rises_and h.up, fun x hx => h.most x ((mem_and a b x).1 hx).1⟩
theorem Up.orI {a b : List Int} (h : Up a) (k : Up b) : Up (orI a b) := ⟨rises_or h.up k.up, fun x hx => ((mem_or a b x).1 hx).elim (h.most x) (k.most x)⟩
theorem Up.lessI {a b : List Int} (h : Up a) : Up (lessI a b) := ⟨rises_lessI h.up, fun x hx => h.most x ((mem_less a b x).1 hx).1⟩
theorem fold_and (r : List (List Int)) : ∀ a : List Int, Up a → Up (r.foldl andI a) ∧ ∀ x, x ∈ r.foldl andI a ↔ x ∈ a ∧ ∀ l ∈ r, x ∈ l := by
  induction r with
  | nil => intro a h; exact ⟨h, by simp⟩
  | cons y r ih =>
    intro a h
    obtain ⟨h1, h2⟩ := ih (andI a y) h.andI
    refine ⟨h1, fun x => ?_⟩
    rw [List.foldl_cons, h2, mem_and]
    simp only [List.mem_cons, forall_eq_or_imp]
    exact ⟨fun ⟨⟨q1, q2⟩, q3⟩ => ⟨q1, q2, q3⟩, fun ⟨q1, q2, q3⟩ => ⟨⟨q1, q2⟩, q3⟩⟩
theorem up_and {X : List (List Int)} (h : ∀ l ∈ X, Up l) : Up (andL X) := by
  cases X with
  | nil => exact Up.nil
  | cons a r => exact (fold_and r a (h a (List.mem_cons_self ..))).1
theorem mem_andL {X : List (List Int)} (h : ∀ l ∈ X, Up l) (hn : X ≠ []) (x : Int) : x ∈ andL X ↔ ∀ l ∈ X, x ∈ l := by
  cases X with
  | nil => exact absurd rfl hn
  | cons a r =>
    show x ∈ r.foldl andI a ↔ _
    rw [(fold_and r a (h a (List.mem_cons_self ..))).2]
    simp
theorem fold_or (r : List (List Int)) : ∀ a : List Int, Up a → (∀ l ∈ r, Up l) → Up (r.foldl orI a) ∧ ∀ x, x ∈ r.foldl orI a ↔ x ∈ a ∨ ∃ l ∈ r, x ∈ l := by
  induction r with
  | nil => intro a h _; exact ⟨h, by simp⟩
  | cons y r ih =>
    intro a h hr
    obtain ⟨h1, h2⟩ := ih (orI a y) (h.orI (hr y (List.mem_cons_self ..))) (fun l hl => hr l (List.mem_cons_of_mem _ hl))
    refine ⟨h1, fun x => ?_⟩
    rw [List.foldl_cons, h2, mem_or]
    simp only [List.mem_cons, exists_eq_or_imp]
    exact or_assoc
theorem up_or {X : List (List Int)} (h : ∀ l ∈ X, Up l) : Up (orL X) := (fold_or X [] Up.nil h).1
theorem mem_orL {X : List (List Int)} (h : ∀ l ∈ X, Up l) (x : Int) : x ∈ orL X ↔ ∃ l ∈ X, x ∈ l := by
  have := (fold_or X [] Up.nil h).2 x
  simpa [orL] using this
/-- It begins with m documents from a on. -/
structure RunOf (l : List Int) (a m : Int) : Prop where
  pos : 0 < m
  low : 0 ≤ a
  fit : a + m ≤ 9223372036854775808
  wide : m ≤ 9223372036854775807
  first : ∀ x ∈ l, a ≤ x
  all : ∀ x, a ≤ x → x < a + m → x ∈ l
theorem RunOf.mem {l : List Int} {a m : Int} (h : RunOf l a m) : a ∈ l := h.all a (Int.le_refl _) (by have := h.pos; omega)
theorem RunOf.head {l : List Int} {a m : Int} (h : RunOf l a m) (hu : Up l) : l.headD 0 = a ∧ l.isEmpty = false := Up.first h.mem h.first hu
/-- Further on within the run. -/
theorem RunOf.on {l : List Int} {a m d : Int} (h : RunOf l a m) (hu : Up l) (hd : max d a - a < m) : RunOf (fromL d l) (a + (max d a - a)) (m - (max d a - a)) := by
  have h1 := h.low
  have h2 := h.fit
  have h7 := h.wide
  refine ⟨by omega, by omega, by omega, by omega, fun x hx => ?_, fun x h3 h4 => ?_⟩
  · obtain ⟨h5, h6⟩ := (hu.mem_from d x).1 hx
    have := h.first x h5
    omega
  · exact (hu.mem_from d x).2 ⟨h.all x (by omega) (by omega), by omega⟩
theorem fromL_nil (d : Int) : fromL d [] = [] := rfl
theorem from_from {l : List Int} (h : Up l) {a d : Int} (had : a ≤ d) : fromL d (fromL a l) = fromL d l :=
  ((h.from a).from d).ext (h.from d) fun x => by rw [(h.from a).mem_from, h.mem_from, h.mem_from]; exact ⟨fun ⟨⟨q1, _⟩, q3⟩ => ⟨q1, q3⟩, fun ⟨q1, q2⟩ => ⟨⟨q1, by omega⟩, q2⟩⟩
end Go.Proofs.Ytkligdaademakaa
namespace Go.Proofs.Ytkligdaademakaa
open Go.RowKit Go.Maps Go.WideMaps Go.Shelf

abbrev SP := World → (Nat → Prop) → Option Addr → List Int → Prop
abbrev MvP := World → (Nat → Prop) → Value → List Int → Prop
/-- What a function that moves leaves: the run from d on, and the rest behind it. -/
def MoveOut (Q : MvP) (w : World) (F : Nat → Prop) (fv : Value) (M : List Int) (d : Int) (e : Ending) (w' : World) : Prop :=
  ∃ a m : Int, e = .returned (.agg #[.int .i64 a, .int .i64 m]) ∧ Kept F w w' ∧
    ((m = 0 ∧ ∀ x ∈ M, x < d) ∨ (RunOf (fromL d M) a m ∧ ∃ F' M', Q w' F' fv M' ∧ Up M' ∧ (∀ i, F' i → F i ∨ w.heap.size ≤ i) ∧ ∀ x, a + m ≤ x → (x ∈ M' ↔ x ∈ M)))
/-- Functions that move. -/
structure MovesOk (Q : MvP) : Prop where
  keep : ∀ {w w' : World} {F : Nat → Prop} {fv : Value} {M : List Int}, Q w F fv M → (∀ b, F b → w'.heap[b]? = w.heap[b]?) → w.heap.size ≤ w'.heap.size → Q w' F fv M
  lt : ∀ {w : World} {F : Nat → Prop} {fv : Value} {M : List Int}, Q w F fv M → ∀ b, F b → b < w.heap.size
  fn : ∀ {w : World} {F : Nat → Prop} {fv : Value} {M : List Int}, Q w F fv M → Up M → ∃ (f : FuncId) (first cap : Array Value), fv = .func (.func f) first cap ∧ (∀ args w, (callFunc f args).run Try.prog w = .ok (.enter f args) w) ∧
    ∀ d : Int, fits64 d → Calls Try.prog f (first.push (.int .i64 d) ++ cap) w (MoveOut Q w F fv M d)
/-- What a set's cells say of what it has. -/
def Stands (Q : MvP) (w : World) (F : Nat → Prop) (b : Nat) (a m : Int) (fv : Value) (l : List Int) : Prop :=
  (m = 0 ∧ l = []) ∨ (RunOf l a m ∧ ∃ F' M, Q w F' fv M ∧ Up M ∧ (∀ i, F' i → F i ∧ i ≠ b) ∧ ∀ x, a + m ≤ x → (x ∈ l ↔ x ∈ M))
/-- A set lies in block b. -/
structure SetB (Q : MvP) (w : World) (F : Nat → Prop) (b : Nat) (a m : Int) (fv : Value) (l : List Int) : Prop where
  up : Up l
  mem : F b
  lt : ∀ i, F i → i < w.heap.size
  blk : Blk w b 71 #[.int .i64 a, .int .i64 m, fv]
  st : Stands Q w F b a m fv l
def SetLv (Q : MvP) : SP := fun w F p l => (p = none ∧ l = [] ∧ ∀ i, F i → i < w.heap.size) ∨ ∃ b a m fv, p = some ⟨b, 0, none⟩ ∧ SetB Q w F b a m fv l
theorem SetLv.lt {Q : MvP} {w : World} {F : Nat → Prop} {p : Option Addr} {l : List Int} (h : SetLv Q w F p l) : ∀ i, F i → i < w.heap.size := by
  rcases h with ⟨_, _, h⟩ | ⟨b, a, m, fv, _, h⟩
  · exact h
  · exact h.lt
theorem SetLv.up {Q : MvP} {w : World} {F : Nat → Prop} {p : Option Addr} {l : List Int} (h : SetLv Q w F p l) : Up l := by
  rcases h with ⟨_, rfl, _⟩ | ⟨b, a, m, fv, _, h⟩
  · exact Up.nil
  · exact h.up
theorem SetB.keep {Q : MvP} (hQ : MovesOk Q) {w w' : World} {F : Nat → Prop} {b : Nat} {a m : Int} {fv : Value} {l : List Int} (h : SetB Q w F b a m fv l) (hk : ∀ i, F i → w'.heap[i]? = w.heap[i]?) (hs : w.heap.size ≤ w'.heap.size) : SetB Q w' F b a m fv l where
  up := h.up
  mem := h.mem
  lt := fun i hi => Nat.lt_of_lt_of_le (h.lt i hi) hs
  blk := (hk b h.mem).trans h.blk
  st := by
    rcases h.st with h1 | ⟨h1, F', M, h2, h3, h4, h5⟩
    · exact .inl h1
    · exact .inr ⟨h1, F', M, hQ.keep h2 (fun i hi => hk i (h4 i hi).1) hs, h3, h4, h5⟩
theorem SetLv.keep {Q : MvP} (hQ : MovesOk Q) {w w' : World} {F : Nat → Prop} {p : Option Addr} {l : List Int} (h : SetLv Q w F p l) (hk : ∀ i, F i → w'.heap[i]? = w.heap[i]?) (hs : w.heap.size ≤ w'.heap.size) : SetLv Q w' F p l := by
  rcases h with ⟨h1, h2, h3⟩ | ⟨b, a, m, fv, h1, h2⟩
  · exact .inl ⟨h1, h2, fun i hi => Nat.lt_of_lt_of_le (h3 i hi) hs⟩
  · exact .inr ⟨b, a, m, fv, h1, h2.keep hQ hk hs⟩
/-- After all. -/
theorem SetB.ended {Q : MvP} {w : World} {F : Nat → Prop} {b : Nat} {fv : Value} {a : Int} (hb : F b) (hlt : ∀ i, F i → i < w.heap.size) (h : Blk w b 71 #[.int .i64 a, .int .i64 0, fv]) : SetB Q w F b a 0 fv [] := ⟨Up.nil, hb, hlt, h, .inl ⟨rfl, rfl⟩⟩
theorem MovesOk.call {Q : MvP} (hQ : MovesOk Q) {w : World} {F : Nat → Prop} {M : List Int} {f : FuncId} {first cap : Array Value} (h : Q w F (.func (.func f) first cap) M) (hM : Up M) {d : Int} (hd : fits64 d) : Calls Try.prog f (first.push (.int .i64 d) ++ cap) w (MoveOut Q w F (.func (.func f) first cap) M d) := by
  obtain ⟨f', first', cap', h1, h2, h3⟩ := hQ.fn h hM
  injection h1 with h4 h5 h6
  injection h4 with h7
  subst h7 h5 h6
  exact h3 d hd
/-- What Skip, Next leave. -/
def SetOut2 (Q : MvP) (w : World) (F : Nat → Prop) (p : Option Addr) (l : List Int) (e : Ending) (w' : World) : Prop :=
  e = .returned (.bool (!l.isEmpty)) ∧ ∃ F', SetLv Q w' F' p l ∧ Kept F w w' ∧ ∀ i, F' i → F i ∨ w.heap.size ≤ i
end Go.Proofs.Ytkligdaademakaa
namespace Go.Proofs.Ytkligdaademakaa
open Go.RowKit Go.Maps Go.WideMaps Go.Shelf
set_option linter.unusedSimpArgs false

set_option maxRecDepth 100000 in
theorem runCells : (Try.prog.info? 68).map (·.size) = some 2 := by kernel_rfl
/-- What a run is from d on. -/
def fromR (a m d : Int) : Int × Int := if m ≤ max d a - a then (0, 0) else (a + (max d a - a), m - (max d a - a))
set_option maxHeartbeats 4000000 in
set_option maxRecDepth 100000 in
theorem seFrom_any (w : World) (a m d : Int) (hd : fits64 d) (ha : 0 ≤ a) (hm : 0 ≤ m) (hf : a + m ≤ 9223372036854775808) (ha2 : a ≤ 9223372036854775807) (hm2 : m ≤ 9223372036854775807) :
    Calls Try.prog 34 #[.agg #[.int .i64 a, .int .i64 m], .int .i64 d] w fun e w' => e = .returned (.agg #[.int .i64 (fromR a m d).1, .int .i64 (fromR a m d).2]) ∧ Below w.heap.size w w' := by
  unfold fits64 at hd
  obtain ⟨r, hr⟩ : ∃ r, r = fromR a m d := ⟨_, rfl⟩
  rw [← hr]
  have HR := Lib.hid hr
  clear hr
  go_enter Try.func34, Try.ntmps34
  go_wp2
  all_goals refine bodyPost_ret (results_cell_row rfl _ _ (w.heap.size + 1) 68 #[.int .i64 r.1, .int .i64 r.2] (0, 0) _ rfl ?_ Try.underlying68 rfl runCells) rfl ?_
  all_goals first | exact ⟨rfl, ((Below.refl _ w).alloc (Nat.le_refl _) _).alloc (by simp) _⟩ | skip
  all_goals rw [heap_alloc2_new]
  all_goals have hr := HR.out
  all_goals unfold fromR at hr
  all_goals first
    | (rw [if_pos (by omega)] at hr; rw [hr])
    | (rw [if_neg (by omega), show max d a - a = 0 by omega] at hr; rw [hr]; simp; done)
    | (rw [if_neg (by omega), show max d a - a = d - a by omega] at hr; rw [hr])
    | (rw [if_neg (by omega)] at hr; rw [hr])
/-- What Doc answers. -/
theorem seDoc_any {Q : MvP} {w : World} {F : Nat → Prop} {p : Option Addr} {l : List Int} (h : SetLv Q w F p l) : Calls Try.prog 14 #[.pointer p] w fun e w' => e = .returned (.tuple #[.int .i64 (l.headD 0), .bool (!l.isEmpty)]) ∧ w' = w := by
  rcases h with ⟨rfl, rfl, _⟩ | ⟨b, a, m, fv, rfl, h⟩
  · go_enter Try.func14, Try.ntmps14
    go_wp2
    go_ret2
    exact ⟨rfl, rfl⟩
  · have c0 := h.blk.cell 0
    have c1 := h.blk.cell 1
    simp only [List.getElem?_toArray, List.getElem?_cons_zero, List.getElem?_cons_succ] at c0 c1
    rcases h.st with ⟨rfl, rfl⟩ | ⟨h1, _⟩
    · clear h
      go_enter Try.func14, Try.ntmps14
      go_wp2
      go_ret2
      exact ⟨rfl, rfl⟩
    · obtain ⟨h2, h3⟩ := h1.head h.up
      rw [h2, h3]
      have d1 : (m == 0) = false := beq_eq_false_iff_ne.2 (by have := h1.pos; omega)
      clear h h1 h2 h3
      go_enter Try.func14, Try.ntmps14
      go_wp2
      go_ret2
      exact ⟨rfl, rfl⟩
set_option maxHeartbeats 4000000 in
set_option maxRecDepth 100000 in
theorem seSkip_any {Q : MvP} (hQ : MovesOk Q) {w : World} {F : Nat → Prop} {p : Option Addr} {l : List Int} (h : SetLv Q w F p l) (d : Int) (hd : fits64 d) : Calls Try.prog 18 #[.pointer p, .int .i64 d] w (SetOut2 Q w F p (fromL d l)) := by
  have HDOC := Lib.hid (seDoc_any h)
  have HS := Lib.hid h
  rcases h with ⟨rfl, rfl, hlt⟩ | ⟨b, a, m, fv, rfl, h⟩
  · clear HDOC
    have HDOC := Lib.hid (seDoc_any (Q := Q) (w := w) (F := F) (p := none) (l := []) (.inl ⟨rfl, rfl, hlt⟩))
    clear hlt
    go_enter Try.func18, Try.ntmps18
    go_wp2_with fail
    refine HDOC.out.mono ?_
    rintro e w1 ⟨rfl, hw⟩
    rw [hw]
    clear hw
    go_wp2
    go_ret
    exact ⟨rfl, F, HS.out, Kept.refl _ _, fun i hi => .inl hi⟩
  · rcases h.st with ⟨rfl, rfl⟩ | ⟨h1, F', M, h2, h3, h4, h5⟩
    · clear h
      go_enter Try.func18, Try.ntmps18
      go_wp2_with fail
      refine HDOC.out.mono ?_
      rintro e w1 ⟨rfl, hw⟩
      rw [hw]
      clear hw
      go_wp2
      go_ret
      exact ⟨rfl, F, HS.out, Kept.refl _ _, fun i hi => .inl hi⟩
    · obtain ⟨q2, q3⟩ := h1.head h.up
      rw [q2, q3] at HDOC
      have H := Lib.hid h
      have H1 := Lib.hid h1
      have HBK := Lib.hid h.blk
      have hlow := h1.low
      have hpos := h1.pos
      have hfit := h1.fit
      have hwide := h1.wide
      have c0 := h.blk.cell 0
      have c1 := h.blk.cell 1
      have c2 := h.blk.cell 2
      have z0 := h.blk.frozen 0
      have z1 := h.blk.frozen 1
      simp only [List.getElem?_toArray, List.getElem?_cons_zero, List.getElem?_cons_succ] at c0 c1 c2
      have HFR := Lib.hid (seFrom_any w a m d hd hlow (by omega) hfit (by omega) (by omega))
      obtain ⟨f, first, cap, rfl, hen, hcl⟩ := hQ.fn h2 h3
      have HU := Lib.hid h.up
      have HLT := Lib.hid h.lt
      have HMEM := Lib.hid h.mem
      have H2 := Lib.hid h2
      have H3 := Lib.hid h3
      have H4 := Lib.hid h4
      have H5 := Lib.hid h5
      have hbl := h.blk.lt
      clear h h1 h2 h3 h4 h5 q2 q3 hcl
      go_enter Try.func18, Try.ntmps18
      go_wp2_with fail
      refine HDOC.out.mono ?_
      rintro e w1 ⟨rfl, hw⟩
      rw [hw]
      clear hw
      by_cases hk : m ≤ max d a - a
      · have hfr : fromR a m d = (0, 0) := by unfold fromR; rw [if_pos hk]
        rw [hfr] at HFR
        have HKK := Lib.hid hk
        clear hk hfr
        go_wp2_with fail
        refine HFR.out.mono ?_
        rintro e w2 ⟨rfl, hb2⟩
        have hz2 := hb2.size
        obtain ⟨w3, hw3⟩ : ∃ w3, w3 = w2.alloc (.cells #[.int .i64 0, .int .i64 0] 68) := ⟨_, rfl⟩
        have hb3 : Below w.heap.size w w3 := by rw [hw3]; exact hb2.alloc hz2 _
        have hg3 : Blk w3 w2.heap.size 68 #[.int .i64 0, .int .i64 0] := by rw [hw3]; exact Blk.new _ _ _
        have hz3 : w3.heap.size = w2.heap.size + 1 := by rw [hw3]; simp
        have HB3 := Lib.hid hb3
        have HW3 := Lib.hid hw3
        have HG3 := Lib.hid hg3
        have hbk3 := HBK.out.below hb3 hbl
        have y2 := hbk3.cell 2
        have g1 := hg3.cell 1
        simp only [List.getElem?_toArray, List.getElem?_cons_zero, List.getElem?_cons_succ] at y2 g1
        have hQ3 : Q w3 F' (.func (.func f) first cap) M := hQ.keep H2.out (fun i hi => hb3.block i (HLT.out i (H4.out i hi).1)) hb3.size
        have HC := Lib.hid (hQ.call hQ3 H3.out hd)
        clear hb2 hb3 hg3 hw3 hbk3 hQ3
        rw [HW3.out] at y2 g1
        go_wp2_with fail
        rw [← HW3.out]
        refine HC.out.mono ?_
        rintro e w4 ⟨a2, m2, rfl, hk4, hcase⟩
        have hng : ¬ F' w2.heap.size := fun e => by have := HLT.out _ (H4.out _ e).1; omega
        have hnb : ¬ F' b := fun e => (H4.out _ e).2 rfl
        have hg4 := HG3.out.kept hk4 hng
        have hbk4 := (HBK.out.below HB3.out hbl).kept hk4 hnb
        have g0 := hg4.cell 0
        have g1 := hg4.cell 1
        have v0 := hg4.frozen 0
        have v1 := hg4.frozen 1
        simp only [List.getElem?_toArray, List.getElem?_cons_zero, List.getElem?_cons_succ] at g0 g1
        obtain ⟨w5, hw5⟩ : ∃ z, z = (w4.setCell ⟨w2.heap.size, 0, none⟩ (.int .i64 a2)).setCell ⟨w2.heap.size, 1, none⟩ (.int .i64 m2) := ⟨_, rfl⟩
        have hbk5 : Blk w5 b 71 #[.int .i64 a, .int .i64 m, .func (.func f) first cap] := by rw [hw5]; exact (hbk4.far (by simp only; omega) _).far (by simp only; omega) _
        have y0 := hbk5.cell 0
        have y1 := hbk5.cell 1
        have x0 := hbk5.frozen 0
        have x1 := hbk5.frozen 1
        simp only [List.getElem?_toArray, List.getElem?_cons_zero, List.getElem?_cons_succ] at y0 y1
        have hk5 : Kept F w w5 := by
          rw [hw5]
          refine ((Kept.trans (F := F) (Kept.below HB3.out) hk4 (fun i _ hi => (H4.out i hi).1)).setCell (.inr ?_) _).setCell (.inr ?_) _
          · simp only; omega
          · simp only; omega
        have HK5 := Lib.hid hk5
        have HBK5 := Lib.hid hbk5
        have hz4 := hk4.size
        have hz5 : w5.heap.size = w4.heap.size := by rw [hw5, size_setCell', size_setCell']
        have hq5 : ∀ (G : Nat → Prop) (N : List Int), Q w4 G (.func (.func f) first cap) N → (∀ i, G i → F' i ∨ w3.heap.size ≤ i) → Q w5 G (.func (.func f) first cap) N := fun G N h hG => hQ.keep h (fun i hi => by
          have hne : i ≠ w2.heap.size := by
            rcases hG i hi with h1 | h1
            · intro e; subst e; exact hng h1
            · omega
          rw [hw5, heap_setCell_other _ _ _ (by simp only; omega), heap_setCell_other _ _ _ (by simp only; omega)]) (by omega)
        have HQ5 := Lib.hid hq5
        have HNB := Lib.hid hnb
        have hdm : a + m ≤ d := by have := HKK.out; omega
        have HFL : Hid (∀ x, x ∈ fromL d l ↔ x ∈ M ∧ d ≤ x) := Lib.hid (fun x => by
          rw [HU.out.mem_from]
          constructor
          · rintro ⟨q1, q2⟩; exact ⟨(H5.out x (by omega)).1 q1, q2⟩
          · rintro ⟨q1, q2⟩; exact ⟨(H5.out x (by omega)).2 q1, q2⟩)
        rw [hw5] at y0 y1 x0 x1
        have HW5 := Lib.hid hw5
        clear hk4 hng hnb hg4 hbk4 hbk5 hk5 hq5 hw5
        rcases hcase with ⟨rfl, hall⟩ | ⟨hrun, G, N, hq, hun, hG, hrest⟩
        · have hnil : fromL d l = [] := List.eq_nil_iff_forall_not_mem.2 fun x hx => by
            obtain ⟨q1, q2⟩ := (HFL.out x).1 hx
            have := hall x q1
            omega
          have HNIL := Lib.hid hnil
          clear hnil hall
          go_wp2
          go_ret
          rw [← HW5.out, HNIL.out]
          refine ⟨rfl, F, .inr ⟨b, a2, 0, .func (.func f) first cap, rfl, SetB.ended HMEM.out (fun i hi => ?_) ?_⟩, (HK5.out.setCell (.inl HMEM.out) _).setCell (.inl HMEM.out) _, fun i hi => .inl hi⟩
          · have := HLT.out i hi
            rw [size_setCell', size_setCell']
            omega
          · simpa using (HBK5.out.set_ 0 (.int .i64 a2)).set_ 1 (.int .i64 0)
        · have hfl : fromL d l = fromL d M := (HU.out.from d).ext (H3.out.from d) fun x => by rw [HFL.out, H3.out.mem_from]
          have hrun2 : RunOf (fromL d l) a2 m2 := by rw [hfl]; exact hrun
          have hbe := (hrun2.head (HU.out.from d)).2
          have d2 : decide (0 < m2) = true := decide_eq_true hrun.pos
          have HRUN := Lib.hid hrun2
          have HBE := Lib.hid hbe
          have hle : d ≤ a2 := ((H3.out.mem_from d a2).1 hrun.mem).2
          have HP := Lib.hid (And.intro (HQ5.out G N hq hG) (And.intro hun (And.intro hG hrest)))
          clear hfl hrun hrun2 hbe hq hun hG hrest
          go_wp2
          go_ret
          rw [← HW5.out]
          obtain ⟨hq, hun, hG, hrest⟩ := HP.out
          refine ⟨by rw [HBE.out]; rfl, fun i => F i ∨ w.heap.size ≤ i ∧ i < w5.heap.size, .inr ⟨b, a2, m2, .func (.func f) first cap, rfl, HU.out.from d, .inl HMEM.out, fun i hi => ?_, ?_, .inr ⟨HRUN.out, G, N, hQ.keep hq (fun i hi => ?_) ?_, hun, fun i hi => ⟨?_, ?_⟩, fun x hx => ?_⟩⟩, (HK5.out.setCell (.inl HMEM.out) _).setCell (.inl HMEM.out) _, fun i hi => hi.imp id And.left⟩
          · rw [size_setCell', size_setCell']
            rcases hi with hi | hi
            · have := HLT.out i hi; omega
            · omega
          · simpa using (HBK5.out.set_ 0 (.int .i64 a2)).set_ 1 (.int .i64 m2)
          · have hne : i ≠ b := by
              rcases hG i hi with h1 | h1
              · intro e; subst e; exact HNB.out h1
              · omega
            rw [heap_setCell_other _ _ _ (by simp only; omega), heap_setCell_other _ _ _ (by simp only; omega)]
          · rw [size_setCell', size_setCell']
            exact Nat.le_refl _
          · rcases hG i hi with h1 | h1
            · exact .inl (H4.out i h1).1
            · have h2 := hQ.lt hq i hi
              right; omega
          · rcases hG i hi with h1 | h1
            · intro e; subst e; exact HNB.out h1
            · omega
          · rw [HFL.out, hrest x hx]
            constructor
            · rintro ⟨q1, _⟩; exact q1
            · intro q1; exact ⟨q1, by have := HRUN.out.pos; omega⟩
      · have hfr : fromR a m d = (a + (max d a - a), m - (max d a - a)) := by unfold fromR; rw [if_neg hk]
        have hon := H1.out.on HU.out (d := d) (by omega)
        obtain ⟨a2, ha2⟩ : ∃ z, z = a + (max d a - a) := ⟨_, rfl⟩
        obtain ⟨m2, hm2⟩ : ∃ z, z = m - (max d a - a) := ⟨_, rfl⟩
        rw [hfr, ← ha2, ← hm2] at HFR
        rw [← ha2, ← hm2] at hon
        have hsum : a2 + m2 = a + m := by omega
        have hda : a ≤ a2 ∧ d ≤ a2 := by omega
        have d1 : (m2 == 0) = false := beq_eq_false_iff_ne.2 (by have := hon.pos; omega)
        have d2 : decide (0 < m2) = true := decide_eq_true hon.pos
        have HON := Lib.hid hon
        have HSUM := Lib.hid hsum
        clear hfr hon ha2 hm2 hsum hk
        go_wp2_with fail
        refine HFR.out.mono ?_
        rintro e w2 ⟨rfl, hb2⟩
        have hz2 := hb2.size
        have hbk2 := (HBK.out.below hb2 hbl).alloc (.cells #[.int .i64 a2, .int .i64 m2] 68)
        have y0 := hbk2.cell 0
        have y1 := hbk2.cell 1
        have x0 := hbk2.frozen 0
        have x1 := hbk2.frozen 1
        simp only [List.getElem?_toArray, List.getElem?_cons_zero, List.getElem?_cons_succ] at y0 y1
        have HB2 := Lib.hid hb2
        clear hb2 hbk2
        have HB3 := Lib.hid (HB2.out.alloc HB2.out.size (.cells #[.int .i64 a2, .int .i64 m2] 68))
        have HBK2 := Lib.hid ((HBK.out.below HB2.out hbl).alloc (.cells #[.int .i64 a2, .int .i64 m2] 68))
        have HNE : Hid ((!(fromL d l).isEmpty) = true) := Lib.hid (by rw [(HON.out.head (HU.out.from d)).2]; rfl)
        go_wp2
        go_ret
        obtain ⟨w3, hw3⟩ : ∃ z, z = w2.alloc (.cells #[.int .i64 a2, .int .i64 m2] 68) := ⟨_, rfl⟩
        rw [← hw3] at HB3 HBK2 ⊢
        have hz3 := HB3.out.size
        refine ⟨by rw [HNE.out]; rfl, F, .inr ⟨b, a2, m2, .func (.func f) first cap, rfl, HU.out.from d, HMEM.out, fun i hi => ?_, ?_, .inr ⟨HON.out, F', M, hQ.keep H2.out (fun i hi => ?_) ?_, H3.out, H4.out, fun x hx => ?_⟩⟩, ((Kept.below HB3.out).setCell (.inl HMEM.out) _).setCell (.inl HMEM.out) _, fun i hi => .inl hi⟩
        · rw [size_setCell', size_setCell']
          have := HLT.out i hi
          omega
        · simpa using (HBK2.out.set_ 0 (.int .i64 a2)).set_ 1 (.int .i64 m2)
        · have h1 := H4.out i hi
          rw [heap_setCell_other _ _ _ (by simp only; exact h1.2), heap_setCell_other _ _ _ (by simp only; exact h1.2)]
          exact HB3.out.block i (HLT.out i h1.1)
        · rw [size_setCell', size_setCell']
          exact hz3
        · have h1 := HSUM.out
          have h2 := HON.out.pos
          rw [HU.out.mem_from, H5.out x (by omega)]
          constructor
          · rintro ⟨q1, _⟩; exact q1
          · intro q1; exact ⟨q1, by omega⟩
end Go.Proofs.Ytkligdaademakaa
namespace Go.Proofs.Ytkligdaademakaa
open Go.RowKit Go.Maps Go.WideMaps Go.Shelf
set_option linter.unusedSimpArgs false

/-- What a mover's step answers. -/
def ToOut (Q : MvP) (w : World) (F : Nat → Prop) (p : Option Addr) (l : List Int) (e : Ending) (w' : World) : Prop :=
  e = .returned (.tuple #[.int .i64 (l.headD 0), .bool (!l.isEmpty)]) ∧ ∃ F', SetLv Q w' F' p l ∧ Kept F w w' ∧ ∀ i, F' i → F i ∨ w.heap.size ≤ i
set_option maxHeartbeats 4000000 in
set_option maxRecDepth 100000 in
theorem seTo_any {Q : MvP} (hQ : MovesOk Q) {w : World} {F : Nat → Prop} {p : Option Addr} {l : List Int} (h : SetLv Q w F p l) (d : Int) (hd : fits64 d) : Calls Try.prog 43 #[.iface 28 (.pointer p), .int .i64 d] w (ToOut Q w F p (fromL d l)) := by
  have HS := Lib.hid (seSkip_any hQ h d hd)
  clear h
  have m1 : ∀ (q : Option Addr) (w : World), (method 244 28 (.pointer q) "Skip").run Try.prog w = .ok (18, .pointer q) w := fun _ _ => by kernel_rfl
  have m2 : ∀ (q : Option Addr) (w : World), (method 244 28 (.pointer q) "Doc").run Try.prog w = .ok (14, .pointer q) w := fun _ _ => by kernel_rfl
  go_enter Try.func43, Try.ntmps43
  go_wp2_with fail
  refine HS.out.mono ?_
  rintro e w1 ⟨rfl, F', h1, h2, h3⟩
  have HD := Lib.hid (seDoc_any h1)
  have HP := Lib.hid (And.intro h1 (And.intro h2 h3))
  clear h1 h2 h3
  go_wp2_with fail
  refine HD.out.mono ?_
  rintro e w2 ⟨rfl, hw⟩
  rw [hw]
  clear hw
  go_wp2
  go_ret2
  exact ⟨by simp, F', HP.out.1, HP.out.2.1, HP.out.2.2⟩
set_option maxHeartbeats 4000000 in
set_option maxRecDepth 100000 in
/-- Behind so many documents from the one on at which it is. -/
theorem sePass_any {Q : MvP} (hQ : MovesOk Q) {w : World} {F : Nat → Prop} {b : Nat} {a m : Int} {fv : Value} {l : List Int} (h : SetB Q w F b a m fv l) (hm : 0 < m) (k : Int) (hk : 0 ≤ k) (hk2 : k ≤ 9223372036854775807) : Calls Try.prog 33 #[.pointer (some ⟨b, 0, none⟩), .int .i64 k] w (SetOut2 Q w F (some ⟨b, 0, none⟩) (fromL (a + k) l)) := by
  have hrun : RunOf l a m := by
    rcases h.st with ⟨h1, _⟩ | ⟨h1, _⟩
    · omega
    · exact h1
  have hlow := hrun.low
  have hpos := hrun.pos
  have hfit := hrun.fit
  have c0 := h.blk.cell 0
  have c1 := h.blk.cell 1
  have z0 := h.blk.frozen 0
  have z1 := h.blk.frozen 1
  simp only [List.getElem?_toArray, List.getElem?_cons_zero, List.getElem?_cons_succ] at c0 c1
  have HH := Lib.hid h
  by_cases hbig : 9223372036854775807 - a < k
  · have hnil : fromL (a + k) l = [] := List.eq_nil_iff_forall_not_mem.2 fun x hx => by
      obtain ⟨q1, q2⟩ := (h.up.mem_from _ x).1 hx
      have := h.up.most x q1
      omega
    rw [hnil]
    clear hnil h hrun
    go_enter Try.func33, Try.ntmps33
    go_wp2
    go_ret
    refine ⟨rfl, F, .inr ⟨b, 0, 0, fv, rfl, SetB.ended HH.out.mem (fun i hi => ?_) ?_⟩, ((Kept.refl F w).setCell (.inl HH.out.mem) _).setCell (.inl HH.out.mem) _, fun i hi => .inl hi⟩
    · rw [size_setCell', size_setCell']; exact HH.out.lt i hi
    · simpa using (HH.out.blk.set_ 0 (.int .i64 0)).set_ 1 (.int .i64 0)
  · have HS := Lib.hid (seSkip_any hQ (p := some ⟨b, 0, none⟩) (.inr ⟨b, a, m, fv, rfl, h⟩) (a + k) (by unfold fits64; omega))
    clear h hrun
    go_enter Try.func33, Try.ntmps33
    go_wp2_with fail
    refine HS.out.mono ?_
    rintro e w1 ⟨rfl, h1⟩
    have H1 := Lib.hid h1
    clear h1
    go_wp2
    go_ret
    exact ⟨rfl, H1.out⟩
set_option maxHeartbeats 4000000 in
set_option maxRecDepth 100000 in
theorem seNext_any {Q : MvP} (hQ : MovesOk Q) {w : World} {F : Nat → Prop} {p : Option Addr} {l : List Int} (h : SetLv Q w F p l) : Calls Try.prog 16 #[.pointer p] w (SetOut2 Q w F p l.tail) := by
  have HD := Lib.hid (seDoc_any h)
  have HH := Lib.hid h
  cases l with
  | nil =>
    clear h
    go_enter Try.func16, Try.ntmps16
    go_wp2_with fail
    refine HD.out.mono ?_
    rintro e w1 ⟨rfl, hw⟩
    rw [hw]
    clear hw
    go_wp2
    go_ret
    exact ⟨rfl, F, HH.out, Kept.refl _ _, fun i hi => .inl hi⟩
  | cons x r =>
    rcases h with ⟨_, h1, _⟩ | ⟨b, a, m, fv, rfl, h⟩
    · cases h1
    · have hrun : RunOf (x :: r) a m := by
        rcases h.st with ⟨_, h1⟩ | ⟨h1, _⟩
        · cases h1
        · exact h1
      have hxa : x = a := (hrun.head h.up).1
      have hP := sePass_any hQ h hrun.pos 1 (by omega) (by omega)
      have hrt : fromL (a + 1) (x :: r) = r := by
        have hu := h.up.up
        simp only [rises, Bool.and_eq_true, decide_eq_true_eq] at hu
        rw [fromL_filter h.up.up, List.filter_cons, if_neg (by simp; omega), List.filter_eq_self]
        intro y hy
        have := rises_gt hu.2 y hy
        simp
        omega
      rw [hrt] at hP
      have HP := Lib.hid hP
      clear h hrun hxa hP hrt
      go_enter Try.func16, Try.ntmps16
      go_wp2_with fail
      refine HD.out.mono ?_
      rintro e w1 ⟨rfl, hw⟩
      rw [hw]
      clear hw
      go_wp2_with fail
      refine HP.out.mono ?_
      rintro e w1 ⟨rfl, h1⟩
      have H1 := Lib.hid h1
      clear h1
      go_wp2
      go_ret
      exact ⟨rfl, H1.out⟩
/-- A set has been made. -/
def SetMade (Q : MvP) (w : World) (F : Nat → Prop) (l : List Int) (e : Ending) (w' : World) : Prop := ∃ b F', e = .returned (.pointer (some ⟨b, 0, none⟩)) ∧ SetLv Q w' F' (some ⟨b, 0, none⟩) l ∧ Kept F w w' ∧ ∀ i, F' i → F i ∨ w.heap.size ≤ i
set_option maxHeartbeats 4000000 in
set_option maxRecDepth 100000 in
/-- A function that moves makes a set, at the first document. -/
theorem seBegin_any {Q : MvP} (hQ : MovesOk Q) {w : World} {F : Nat → Prop} {fv : Value} {M : List Int} (h : Q w F fv M) (hM : Up M) : Calls Try.prog 36 #[fv] w (SetMade Q w F M) := by
  obtain ⟨f, first, cap, rfl, hen, hcl⟩ := hQ.fn h hM
  have HC := Lib.hid (hcl 0 (by unfold fits64; omega))
  have HLT := Lib.hid (hQ.lt h)
  have HM := Lib.hid hM
  clear hcl h hM
  go_enter Try.func36, Try.ntmps36
  go_wp2_with fail
  refine HC.out.mono ?_
  rintro e w1 ⟨a, m, rfl, hk, hcase⟩
  have HK := Lib.hid hk
  have HCASE := Lib.hid hcase
  have hz := hk.size
  clear hk hcase
  go_wp2
  go_ret
  have hz2 : (w1.alloc (.cells #[.int .i64 a, .int .i64 m, .func (.func f) first cap] 71)).heap.size = w1.heap.size + 1 := by simp
  have hnew := Blk.new w1 71 #[.int .i64 a, .int .i64 m, .func (.func f) first cap]
  rcases HCASE.out with ⟨rfl, hall⟩ | ⟨hrun, G, N, hq, hun, hG, hrest⟩
  · have hnil : M = [] := List.eq_nil_iff_forall_not_mem.2 fun x hx => by
      have h1 := hall x hx
      have h2 := HM.out.pos x hx
      omega
    subst hnil
    exact ⟨w1.heap.size, fun i => i = w1.heap.size, rfl, .inr ⟨w1.heap.size, a, 0, _, rfl, SetB.ended rfl (fun i (e : i = w1.heap.size) => by omega) hnew⟩, HK.out.alloc _, fun i (e : i = w1.heap.size) => .inr (by omega)⟩
  · have hfm : fromL 0 M = M := (HM.out.from 0).ext HM.out fun x => by
      rw [HM.out.mem_from]
      exact ⟨And.left, fun h => ⟨h, HM.out.pos x h⟩⟩
    rw [hfm] at hrun
    refine ⟨w1.heap.size, fun i => G i ∨ i = w1.heap.size, rfl, .inr ⟨w1.heap.size, a, m, _, rfl, HM.out, .inr rfl, fun i hi => ?_, hnew, .inr ⟨hrun, G, N, hQ.keep hq (fun i hi => ?_) (by omega), hun, fun i hi => ⟨.inl hi, ?_⟩, fun x hx => (hrest x hx).symm⟩⟩, HK.out.alloc _, fun i hi => ?_⟩
    · rcases hi with hi | hi
      · have := hQ.lt hq i hi; omega
      · omega
    · exact Below.heap_alloc w1 _ i (hQ.lt hq i hi)
    · have := hQ.lt hq i hi; omega
    · rcases hi with hi | hi
      · exact hG i hi
      · right; omega
end Go.Proofs.Ytkligdaademakaa
