/- Words of trie: where a text stands in another one, and what a search leaves. -/
import Derived.Test.YtjnbilcanfhkjaaKRows
import Derived.Test.YtjnbilcanfhkjaaKStr
import Derived.Test.YtjnbilcanfhkjaaKInts
import Derived.Test.YtjnbilcanfhkjaaKTok
import Derived.Deep.QuietTactic
import Derived.BigQuiet
namespace Go.Proofs.Ytjnbilcanfhkjaa
open Go.RowKit Go.Maps Go.WideMaps

def atB (t : Nm) (i : Int) (s : Nm) : Bool := decide (0 ≤ i) && (decide (i + s.length ≤ t.length) && ((t.drop i.toNat).take s.length == s))

theorem intInfoI : (Try.prog.info? 3).map (fun i => (i.zero, i.size, i.bytes)) = some (some (.int .i64 0), 1, 8) := by kernel_rfl
/-- The places, up to k, of those that are so. -/
def idxUp (p : Nm → Bool) (L : List Nm) : Nat → List Int
  | 0 => []
  | k + 1 => if p (L.getD k []) = true then idxUp p L k ++ [(k : Int)] else idxUp p L k
theorem idxUp_len (p : Nm → Bool) (L : List Nm) (k : Nat) : (idxUp p L k).length ≤ k := by
  induction k with
  | zero => simp [idxUp]
  | succ k ih =>
    simp only [idxUp]
    split
    · simp; omega
    · omega
theorem idxUp_yes {p : Nm → Bool} {L : List Nm} {k : Nat} {x : Nm} (hx : L[k]? = some x) (h : p x = true) : idxUp p L (k + 1) = idxUp p L k ++ [(k : Int)] := by
  simp only [idxUp, List.getD_eq_getElem?_getD, hx, Option.getD_some, h, if_true]
theorem idxUp_no {p : Nm → Bool} {L : List Nm} {k : Nat} {x : Nm} (hx : L[k]? = some x) (h : p x = false) : idxUp p L (k + 1) = idxUp p L k := by
  simp only [idxUp, List.getD_eq_getElem?_getD, hx, Option.getD_some, h]
  rfl
/-- What such a search leaves. -/
def IdxOut (w : World) (l : List Int) (e : Ending) (w' : World) : Prop := ∃ v, e = .returned v ∧ w'.ownsRow w.heap.size 3 1 v l.length (l.map i64V) ∧ Below w.heap.size w w'

def anyUp (x s : Nm) (j : Nat) : Bool := (List.range j).any fun (k : Nat) => atB x k s
def infB (x s : Nm) : Bool := anyUp x s (x.length + 1)
theorem anyUp_succ (x s : Nm) (j : Nat) : anyUp x s (j + 1) = (anyUp x s j || atB x j s) := by
  unfold anyUp
  rw [List.range_succ, List.any_append]
  simp

def rightB (L : List Nm) : Bool := decide (L.length ≤ 512) && L.all fun x => decide (List.length x ≤ 16)
theorem rightB_long {L : List Nm} (h : 512 < L.length) : rightB L = false := by
  unfold rightB
  rw [decide_eq_false (by omega)]
  rfl
theorem rightB_wide {L : List Nm} {k : Nat} {x : Nm} (hx : L[k]? = some x) (h : 16 < x.length) : rightB L = false := by
  unfold rightB
  have h2 : (L.all fun x => decide (List.length x ≤ 16)) = false := List.all_eq_false.2 ⟨x, List.mem_of_getElem? hx, by simp; omega⟩
  rw [h2, Bool.and_false]
theorem rightB_yes {L : List Nm} (h : L.length ≤ 512) (h2 : ∀ (j : Nat) (x : Nm), L[j]? = some x → List.length x ≤ 16) : rightB L = true := by
  unfold rightB
  rw [decide_eq_true h, Bool.true_and, List.all_eq_true]
  intro x hx
  obtain ⟨j, hj⟩ := List.mem_iff_getElem?.1 hx
  exact decide_eq_true (h2 j x hj)

abbrev preL (L : List Nm) (s : Nm) : List Int := idxUp (fun t => atB t 0 s) L L.length
abbrev sufL (L : List Nm) (s : Nm) : List Int := idxUp (fun t => atB t ((t.length : Int) - (s.length : Int)) s) L L.length
abbrev infL (L : List Nm) (s : Nm) : List Int := idxUp (fun t => infB t s) L L.length
end Go.Proofs.Ytjnbilcanfhkjaa
