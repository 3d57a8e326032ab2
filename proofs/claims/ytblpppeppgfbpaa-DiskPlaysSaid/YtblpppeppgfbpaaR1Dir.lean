/- The document's disk (verbatimref01): directories: find, without, with, changed. -/
import Derived.Test.YtblpppeppgfbpaaModel
import Derived.Deep.QuietTactic
import Derived.BigQuiet
namespace Go.Proofs.Ytblpppeppgfbpaa
open Go.RowKit Go.Maps Go.WideMaps

/-- The cells of a row of entries. -/
def entCells : Dir → List Value
  | [] => []
  | p :: r => encStr p.1 :: .int .i64 p.2 :: entCells r
theorem entCells_app (d e : Dir) : entCells (d ++ e) = entCells d ++ entCells e := by
  induction d with
  | nil => rfl
  | cons p r ih => simp [entCells, ih]
theorem entCells_len (d : Dir) : (entCells d).length = d.length * 2 := by
  induction d with
  | nil => rfl
  | cons p r ih => simp only [entCells, List.length_cons, ih]; omega
theorem entCells_at : ∀ (d : Dir) (i : Nat) (p : Nm × Nat), d[i]? = some p → (entCells d)[i * 2]? = some (encStr p.1) ∧ (entCells d)[i * 2 + 1]? = some (.int .i64 p.2)
  | q :: r, 0, p, h => by
    simp at h
    subst h
    exact ⟨rfl, rfl⟩
  | q :: r, i + 1, p, h => by
    have := entCells_at r i p (by simpa using h)
    simpa [entCells, Nat.add_mul] using this
/-- A directory that can be read. -/
structure DirIn (w : World) (A : Option Addr) (n : Nat) (d : Dir) : Prop where
  len : d.length = n
  fit : n ≤ 1099511627776
  nil : A = none → n = 0
  cells : ∀ ad, A = some ad → ∀ (i : Nat) (p : Nm × Nat), d[i]? = some p → w.cell? (ad.add (i * 2)) = some (encStr p.1) ∧ w.cell? ⟨(ad.add (i * 2)).block, (ad.add (i * 2)).off + 1, none⟩ = some (.int .i64 p.2)
theorem DirIn.keep {w w' : World} {A : Option Addr} {n : Nat} {d : Dir} (h : DirIn w A n d) (hb : ∀ ad, A = some ad → 0 < n → w'.heap[ad.block]? = w.heap[ad.block]?) : DirIn w' A n d :=
  ⟨h.len, h.fit, h.nil, fun ad e i p hp => by
    obtain ⟨h1, h2⟩ := h.cells ad e i p hp
    have hn : 0 < n := by have := (List.getElem?_eq_some_iff.1 hp).1; have := h.len; omega
    have hb2 : (ad.add (i * 2)).block = ad.block := by unfold Addr.add; split <;> rfl
    exact ⟨(World.cell?_of_block (by rw [hb2]; exact hb ad e hn)).trans h1, (World.cell?_of_block (w := w) (w' := w') (a := ⟨(ad.add (i * 2)).block, (ad.add (i * 2)).off + 1, none⟩) (by rw [show (⟨(ad.add (i * 2)).block, (ad.add (i * 2)).off + 1, none⟩ : Addr).block = ad.block from hb2]; exact hb ad e hn)).trans h2⟩⟩
theorem DirIn.lt {w : World} {A : Option Addr} {n : Nat} {d : Dir} (h : DirIn w A n d) : ∀ ad, A = some ad → 0 < n → ad.block < w.heap.size := fun ad e hn => by
  have hp : d[0]? = some (d[0]'(by rw [h.len]; exact hn)) := List.getElem?_eq_getElem _
  have h1 := (h.cells ad e 0 _ hp).1
  have h2 := World.block_lt_of_cell? w _ h1
  have hb2 : (ad.add (0 * 2)).block = ad.block := by unfold Addr.add; split <;> rfl
  rw [hb2] at h2
  exact h2
theorem DirIn.below {w w' : World} {A : Option Addr} {n : Nat} {d : Dir} (h : DirIn w A n d) (hb : Below w.heap.size w w') : DirIn w' A n d :=
  h.keep fun ad e hn => hb.block _ (h.lt ad e hn)
theorem DirIn.drewN {w : World} {A : Option Addr} {n : Nat} {d : Dir} (h : DirIn w A n d) (q : Nat) : DirIn (w.drewN q) A n d := h.keep fun _ _ _ => rfl
theorem DirIn.empty (w : World) : DirIn w none 0 [] := ⟨rfl, by omega, fun _ => rfl, fun ad e => by cases e⟩
theorem DirIn.own {w : World} {base : Nat} {A : Option Addr} {n c : Nat} {d : Dir} (h : w.ownsRow base 78 2 (.slice A n c) n (entCells d)) (hl : d.length = n) (hf : n ≤ 1099511627776) : DirIn w A n d := by
  refine ⟨hl, hf, fun e => ?_, fun ad e i p hp => ?_⟩
  · rcases h.2 with ⟨_, h0⟩ | ⟨g, cap, cur, h1, _⟩
    · exact h0
    · injection h1 with h1
      rw [h1] at e; cases e
  · obtain ⟨c1, c2⟩ := entCells_at d i p hp
    have hi := (List.getElem?_eq_some_iff.1 hp).1
    rcases h.2 with ⟨_, h0⟩ | ⟨g, cap, cur, hv, _⟩
    · omega
    · injection hv with hA hn _
      have e1 := h.cells (g := g) (by rw [hA]; rfl) _ _ c1
      have e2 := h.cells (g := g) (by rw [hA]; rfl) _ _ c2
      rw [hA] at e
      injection e with e
      subst e
      refine ⟨e1, ?_⟩
      rw [Addr.add_mid] at e2
      rw [Addr.add_mid]
      exact e2
theorem DirIn.at {w : World} {A : Option Addr} {n : Nat} {d : Dir} (h : DirIn w A n d) (k : Nat) (hk : k < n) : ∃ ad p, A = some ad ∧ d[k]? = some p ∧ w.cell? (ad.add (k * 2)) = some (.string ⟨p.1.toArray⟩) ∧ w.cell? ⟨(ad.add (k * 2)).block, (ad.add (k * 2)).off + 1, none⟩ = some (.int .i64 p.2) := by
  cases hA : A with
  | none => have := h.nil hA; omega
  | some ad =>
    subst hA
    have hp : d[k]? = some (d[k]'(by rw [h.len]; exact hk)) := List.getElem?_eq_getElem _
    obtain ⟨h1, h2⟩ := h.cells ad rfl k _ hp
    exact ⟨ad, _, rfl, hp, h1, h2⟩
theorem entInfo : (Try.prog.info? 78).map (fun i => (i.zero, i.size, i.bytes)) = some (some (.agg #[.string ⟨#[]⟩, .int .i64 0]), 2, 24) := by kernel_rfl
theorem take_snocD {α : Type} {l : List α} {k : Nat} {x : α} (h : l[k]? = some x) : l.take (k + 1) = l.take k ++ [x] := by
  rw [List.take_add_one, h]
  rfl
/-- Where a name stands; below 0: nowhere. -/
def dfind (d : Dir) (k : Nm) : Int := match d.findIdx? (fun p => p.1 == k) with | some i => i | none => -1

set_option maxHeartbeats 4000000 in
set_option maxRecDepth 100000 in
theorem r1find_any (w : World) (A : Option Addr) (n c : Nat) (d : Dir) (hd : DirIn w A n d) (nm : ByteArray) :
    Calls Try.prog 35 #[.slice A n c, .string nm] w fun e w' => e = .returned (.int .i64 (dfind d nm.data.toList)) ∧ w' = w := by
  have HD := Lib.hid hd
  have hfit := hd.fit
  clear hd
  obtain ⟨k0, rfl⟩ : ∃ k0 : Nm, nm = ⟨k0.toArray⟩ := ⟨nm.data.toList, by simp⟩
  obtain ⟨R, hR⟩ : ∃ R, R = dfind d k0 := ⟨_, rfl⟩
  have hR' : R = dfind d (⟨k0.toArray⟩ : ByteArray).data.toList := by rw [hR]
  rw [← hR']
  have HR := Lib.hid hR
  clear hR hR'
  go_enter Try.func35, Try.ntmps35
  go_wp2
  go_loop [5] (fun i => ∃ k : Nat, k ≤ n ∧ i = .int .i64 k ∧ ∀ p ∈ d.take k, (p.1 == k0) = false) (fun i => n - (intOf i).toNat)
  case atStart => exact ⟨0, by omega, rfl, by simp⟩
  case round =>
    obtain ⟨k, hk, rfl, ht⟩ := hrel
    have HT := Lib.hid ht
    clear ht
    rcases Nat.lt_or_ge k n with hlt | hge
    · have hlt' : (k : Int) < (n : Int) := by omega
      have p0 : (0 : Int) ≤ (k : Int) := by omega
      obtain ⟨ad, ⟨pn, pf⟩, rfl, hp, c1, c2⟩ := HD.out.at k hlt
      have HP := Lib.hid hp
      clear hp c2
      by_cases he : pn = k0
      · subst he
        have hres : R = (k : Int) := by
          rw [HR.out]
          unfold dfind
          have : d.findIdx? (fun p => p.1 == pn) = some k := by
            rw [List.findIdx?_eq_some_iff_getElem]
            obtain ⟨h1, h2⟩ := List.getElem?_eq_some_iff.1 HP.out
            refine ⟨h1, by rw [h2]; simp, fun j hj => ?_⟩
            have := HT.out (d[j]'(by omega)) (by
              rw [List.mem_take_iff_getElem]
              exact ⟨j, by omega, rfl⟩)
            simpa using this
          rw [this]
        have HRES := Lib.hid hres
        clear hres
        go_wp2
        go_ret
        exact ⟨by rw [HRES.out]; rfl, rfl⟩
      · have hne : (pn == k0) = false := by simpa using he
        have HNE := Lib.hid hne
        clear he
        go_wp2
        go_round
        case rel =>
          refine ⟨k + 1, by omega, by go_num, fun p hp => ?_⟩
          rw [take_snocD HP.out] at hp
          rcases List.mem_append.1 hp with h | h
          · exact HT.out p h
          · rw [List.mem_singleton.1 h]; exact HNE.out
        case measure => simp [intOf]; omega
    · obtain rfl : k = n := by omega
      have hlz : ¬ ((k : Int) < (k : Int)) := by omega
      have hres : R = -1 := by
        rw [HR.out]
        unfold dfind
        have : d.findIdx? (fun p => p.1 == k0) = none := by
          rw [List.findIdx?_eq_none_iff]
          intro p hp
          have := HT.out p (by rw [List.take_of_length_le (by rw [HD.out.len]; exact Nat.le_refl _)]; exact hp)
          simpa using this
        rw [this]
      have HRES := Lib.hid hres
      clear hres
      go_wp2
      go_ret
      exact ⟨by rw [HRES.out]; rfl, rfl⟩
end Go.Proofs.Ytblpppeppgfbpaa
