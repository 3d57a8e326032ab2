/- The document's disk and the program's: directories under a map of the files' numbers. -/
import Derived.Test.YtblpppeppgfbpaaR1Dir2
namespace Go.Proofs.Ytblpppeppgfbpaa
open Go.RowKit Go.Maps Go.WideMaps

def dmap (f : Nat → Nat) (d : Dir) : Dir := d.map fun p => (p.1, f p.2)
theorem dget_dmap (f : Nat → Nat) (d : Dir) (k : Nm) : dget (dmap f d) k = (dget d k).map f := by
  unfold dget dmap
  induction d with
  | nil => rfl
  | cons p r ih =>
    by_cases h : (p.1 == k) = true
    · simp [h]
    · simp only [List.map_cons, List.find?_cons, h]
      exact ih
theorem ddel_dmap (f : Nat → Nat) (d : Dir) (k : Nm) : ddel (dmap f d) k = dmap f (ddel d k) := by
  unfold ddel dmap
  induction d with
  | nil => rfl
  | cons p r ih =>
    by_cases h : (p.1 == k) = true
    · simp [h]
      exact ih
    · simp [h]
      exact ih
theorem dins_dmap (f : Nat → Nat) (d : Dir) (k : Nm) (v : Nat) : dins k (f v) (dmap f d) = dmap f (dins k v d) := by
  induction d with
  | nil => rfl
  | cons p r ih =>
    by_cases h : bytesBefore k p.1 = true
    · rw [dins_stop k v p r h]
      exact dins_stop k (f v) (p.1, f p.2) (dmap f r) h
    · have h' : bytesBefore k p.1 = false := by simpa using h
      rw [dins_step k v p r h']
      show dins k (f v) ((p.1, f p.2) :: dmap f r) = (p.1, f p.2) :: dmap f (dins k v r)
      rw [dins_step k (f v) (p.1, f p.2) (dmap f r) h', ih]
theorem dput_dmap (f : Nat → Nat) (d : Dir) (k : Nm) (v : Nat) : dput (dmap f d) k (f v) = dmap f (dput d k v) := by
  unfold dput
  rw [ddel_dmap, dins_dmap]
theorem dmap_len (f : Nat → Nat) (d : Dir) : (dmap f d).length = d.length := by simp [dmap]
theorem ddel_cons_eq (p : Nm × Nat) (r : Dir) (k : Nm) (h : p.1 = k) : ddel (p :: r) k = ddel r k := by simp [ddel, h]
theorem ddel_cons_ne (p : Nm × Nat) (r : Dir) (k : Nm) (h : p.1 ≠ k) : ddel (p :: r) k = p :: ddel r k := by simp [ddel, h]
/-- Insert, then take another name out: the other way round. -/
theorem ddel_dins (a b : Nm) (v : Nat) (hab : a ≠ b) (tr : ∀ x y z : Nm, bytesBefore x y = true → bytesBefore y z = true → bytesBefore x z = true) : ∀ d : Dir, d.Pairwise (fun p q => bytesBefore p.1 q.1 = true) → ddel (dins b v d) a = dins b v (ddel d a)
  | [], _ => by
    show ddel [(b, v)] a = dins b v []
    rw [ddel_cons_ne (b, v) [] a (fun e => hab e.symm)]
    rfl
  | p :: r, hs => by
    obtain ⟨h1, h2⟩ := List.pairwise_cons.1 hs
    have ih := ddel_dins a b v hab tr r h2
    by_cases h : bytesBefore b p.1 = true
    · rw [dins_stop b v p r h, ddel_cons_ne (b, v) _ a (fun e => hab e.symm)]
      by_cases hp : p.1 = a
      · rw [ddel_cons_eq p r a hp]
        cases hd : ddel r a with
        | nil => rfl
        | cons q t =>
          have hq : q ∈ r := (mem_ddel.1 (by rw [hd]; exact List.mem_cons_self ..)).1
          rw [dins_stop b v q t (tr _ _ _ h (h1 q hq))]
      · rw [ddel_cons_ne p r a hp, dins_stop b v p _ h]
    · have h' : bytesBefore b p.1 = false := by simpa using h
      rw [dins_step b v p r h']
      by_cases hp : p.1 = a
      · rw [ddel_cons_eq p _ a hp, ddel_cons_eq p r a hp, ih]
      · rw [ddel_cons_ne p _ a hp, ddel_cons_ne p r a hp, dins_step b v p _ h', ih]
theorem ddel_ddel (d : Dir) (a b : Nm) : ddel (ddel d a) b = ddel (ddel d b) a := by
  unfold ddel
  rw [List.filter_filter, List.filter_filter]
  congr 1
  funext p
  rw [Bool.and_comm]
theorem sorted_ddel (d : Dir) (a : Nm) (h : d.Pairwise (fun p q => bytesBefore p.1 q.1 = true)) : (ddel d a).Pairwise (fun p q => bytesBefore p.1 q.1 = true) := h.filter _
/-- A rename, as the document has it and as the program has it. -/
theorem rename_alike (d : Dir) (a b : Nm) (v : Nat) (hab : a ≠ b) (tr : ∀ x y z : Nm, bytesBefore x y = true → bytesBefore y z = true → bytesBefore x z = true) (hs : d.Pairwise (fun p q => bytesBefore p.1 q.1 = true)) : dput (ddel d a) b v = ddel (dput d b v) a := by
  unfold dput
  rw [ddel_dins a b v hab tr _ (sorted_ddel d b hs), ddel_ddel]
end Go.Proofs.Ytblpppeppgfbpaa
