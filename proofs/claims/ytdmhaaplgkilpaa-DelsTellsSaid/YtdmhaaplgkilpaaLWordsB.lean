/- Words of PutRising and GetRising, the document's and the program's. -/
import Derived.Test.YtdmhaaplgkilpaaLWords
import Derived.Test.YtdmhaaplgkilpaaLMath2
import Derived.Test.YtdmhaaplgkilpaaKInts
namespace Go.Proofs.Ytdmhaaplgkilpaa
open Go.RowKit Go.Maps Go.WideMaps
set_option linter.unusedSimpArgs false

theorem gaps_snoc (a : List Int) (x : Int) : ∀ p, gaps p (a ++ [x]) = gaps p a ++ [(x - a.getLastD p - 1).toNat] := by
  induction a with
  | nil => intro p; rfl
  | cons y r ih => intro p; simp only [List.cons_append, gaps, ih y]; cases r <;> rfl
theorem rises_snoc (a : List Int) (x : Int) : ∀ p, rises p (a ++ [x]) = (rises p a && decide (a.getLastD p < x)) := by
  induction a with
  | nil => intro p; simp [rises]
  | cons y r ih => intro p; simp only [List.cons_append, rises, ih y, Bool.and_assoc]; cases r <;> rfl
theorem rises_prefix (a b : List Int) : ∀ p, rises p (a ++ b) = true → rises p a = true := by
  induction a with
  | nil => intro p _; rfl
  | cons y r ih => intro p h; simp only [List.cons_append, rises, Bool.and_eq_true] at h ⊢; exact ⟨h.1, ih y h.2⟩
theorem rises_last (a : List Int) : ∀ p, rises p a = true → p ≤ a.getLastD p := by
  induction a with
  | nil => intro p _; exact Int.le_refl _
  | cons y r ih =>
    intro p h
    simp only [rises, Bool.and_eq_true, decide_eq_true_eq] at h
    have := ih y h.2
    have e : (y :: r).getLastD p = r.getLastD y := by cases r <;> rfl
    rw [e]
    omega
theorem last_take {l : List Int} {k : Nat} {y : Int} (h : l[k]? = some y) (p : Int) : (l.take (k + 1)).getLastD p = y := by
  rw [List.take_add_one, h]
  simp
theorem take_snoc {α : Type} {l : List α} {k : Nat} {x : α} (h : l[k]? = some x) : l.take (k + 1) = l.take k ++ [x] := by
  rw [List.take_add_one, h]
  rfl
theorem putGaps_snoc (a : List Nat) (x : Nat) : putGaps (a ++ [x]) = putGaps a ++ putL x := by simp [putGaps]
theorem putGaps_len (a : List Nat) (h : ∀ x ∈ a, x < 2 ^ 64) : (putGaps a).length ≤ 10 * a.length := by
  induction a with
  | nil => simp [putGaps]
  | cons x r ih =>
    have h1 := putL_len x (h x (List.mem_cons_self ..))
    have h2 := ih fun y hy => h y (List.mem_cons_of_mem _ hy)
    simp only [putGaps, List.flatMap_cons, List.length_append, List.length_cons] at h2 ⊢
    omega
theorem gaps_lt (l : List Int) : ∀ p, -1 ≤ p → rises p l = true → (∀ x ∈ l, x ≤ 9223372036854775807) → ∀ g ∈ gaps p l, g < 2 ^ 64 := by
  induction l with
  | nil => intro p _ _ _ g hg; simp [gaps] at hg
  | cons x r ih =>
    intro p hp hr hx g hg
    simp only [rises, Bool.and_eq_true, decide_eq_true_eq] at hr
    have hxm := hx x (List.mem_cons_self ..)
    rcases List.mem_cons.1 hg with rfl | hg
    · omega
    · exact ih x (by omega) hr.2 (fun y hy => hx y (List.mem_cons_of_mem _ hy)) g hg
/-- What is put, so far. -/
def putUp (l : List Int) (k : Nat) : List UInt8 := putL l.length ++ putGaps (gaps (-1) (l.take k))
theorem putUp_len {l : List Int} {k : Nat} (hk : k ≤ l.length) (hr : rises (-1) (l.take k) = true) (hx : ∀ x ∈ l, x ≤ 9223372036854775807) (hl : l.length < 2 ^ 64) : (putUp l k).length ≤ 10 + 10 * k := by
  have h1 := putL_len l.length hl
  have h2 := putGaps_len _ (gaps_lt (l.take k) (-1) (by omega) hr fun x h => hx x (List.mem_of_mem_take h))
  rw [gaps_len, List.length_take, Nat.min_eq_left hk] at h2
  simp only [putUp, List.length_append]
  omega
/-- What PutRising leaves. -/
def PutROut (w : World) (l : List Int) (e : Ending) (w' : World) : Prop :=
  ∃ v n, e = .returned (.tuple #[v, .int .i64 n]) ∧ Below w.heap.size w w' ∧ ((rises (-1) l = true ∧ n = 0 ∧ w'.ownsRow w.heap.size 5 1 v (putR l).length ((putR l).map byteV)) ∨ (rises (-1) l = false ∧ n = 1 ∧ v = .slice none 0 0))
theorem intInfo64 : (Try.prog.info? 2).map (fun i => (i.zero, i.size, i.bytes)) = some (some (.int .i64 0), 1, 8) := by kernel_rfl
/-- What GetRising leaves. -/
def GetROut (w : World) (g : List Int × Nat × Int) (e : Ending) (w' : World) : Prop :=
  ∃ v, e = .returned (.tuple #[v, .int .i64 g.2.1, .int .i64 g.2.2]) ∧ Below w.heap.size w w' ∧ w'.ownsRow w.heap.size 2 1 v g.1.length (g.1.map i64V)
theorem gerr {w w' : World} {g : List Int × Nat × Int} {e : Int} (h : g = ([], 0, e)) (hb : Below w.heap.size w w') : GetROut w g (.returned (.tuple #[.slice none 0 0, .int .i64 0, .int .i64 e])) w' := by
  subst h
  exact ⟨_, rfl, hb, ⟨rfl, .inl ⟨rfl, rfl⟩⟩⟩
theorem gok {w w' : World} {g : List Int × Nat × Int} {l : List Int} {k : Nat} {v : Value} (h : g = (l, k, 0)) (hb : Below w.heap.size w w') (ho : w'.ownsRow w.heap.size 2 1 v l.length (l.map i64V)) : GetROut w g (.returned (.tuple #[v, .int .i64 k, .int .i64 0])) w' := by
  subst h
  exact ⟨_, rfl, hb, ho⟩
/-- All numbers so far are at most what has been read. -/
theorem getL_pos {l : List UInt8} (h : (getL l).2.2 = 0) : 0 < (getL l).2.1 ∧ (getL l).2.1 ≤ l.length ∧ (getL l).1 < 2 ^ 64 := by
  rcases hg : getL l with ⟨v, k, e⟩
  rw [hg] at h
  simp only at h
  subst h
  obtain ⟨h1, _, h3, _, h5⟩ := getL_inv hg
  exact ⟨h1, h3, h5⟩
end Go.Proofs.Ytdmhaaplgkilpaa
