/- The contracts of the document's List, All, Has, And, Less. -/
import Derived.Test.YtkligdaademakaaSeMath
import Derived.Test.YtkligdaademakaaLWordsB
namespace Go.Proofs.Ytkligdaademakaa
open Go.RowKit Go.Maps Go.WideMaps

/-- A row of numbers has come back. -/
def NumsOut (w : World) (l : List Int) (e : Ending) (w' : World) : Prop := ∃ v, e = .returned v ∧ w'.ownsRow w.heap.size 2 1 v l.length (l.map i64V) ∧ Below w.heap.size w w'

theorem int_stays {w wr : World} {pa : Addr} {n k : Nat} {l : List Int} {x : Int} (h : IntsIn w (some pa) n l) (hb : Below w.heap.size w wr) (hk : k < n) (hx : wr.cell? (pa.add k) = some (.int .i64 x)) : ∀ u, Below w.heap.size w u → u.cell? (pa.add k) = some (.int .i64 x) := fun u hu => by
  obtain ⟨pa', x', e1, e2, e3, -, -⟩ := (h.below hu).at k hk
  obtain ⟨pa'', x'', f1, f2, f3, -, -⟩ := (h.below hb).at k hk
  cases e1
  cases f1
  rw [e2] at f2
  cases f2
  rw [f3] at hx
  cases hx
  exact e3

set_option maxHeartbeats 4000000 in
set_option maxRecDepth 100000 in
theorem r11List_any (w : World) (A : Option Addr) (n c : Nat) (l : List Int) (hl : IntsIn w A n l) (hn : n ≤ 1000000) : Calls Try.prog 28 #[.slice A n c] w (NumsOut w (listI l)) := by
  obtain ⟨i0, hi, hz0, hz1, hz2⟩ := info_parts intInfo64
  have HL := Lib.hid hl
  have HLN := Lib.hid hl.len
  clear hl
  go_enter Try.func28, Try.ntmps28
  go_wp2
  go_loopw [3, 4, 5] (fun v x i wr => ∃ (k : Nat) (m : Int), k ≤ n ∧ i = .int .i64 k ∧ x = .int .i64 m ∧ m = (listUp l k).2 ∧ wr.ownsRow w.heap.size 2 1 v (listUp l k).1.length ((listUp l k).1.map i64V) ∧ Below w.heap.size w wr) (fun _ _ i _ => n - (intOf i).toNat)
  case atStart => exact ⟨0, -1, by omega, rfl, rfl, rfl, ⟨rfl, .inl ⟨rfl, rfl⟩⟩, Below.refl _ _⟩
  case round =>
    obtain ⟨k, m, hk, rfl, rfl, hm, hO, hB⟩ := hrel
    have HO := Lib.hid hO
    have HB := Lib.hid hB
    have HM := Lib.hid hm
    clear hO hB hm
    rcases Nat.lt_or_ge k n with hlt | hge
    · have hlt' : (k : Int) < (n : Int) := by omega
      have p0 : (0 : Int) ≤ (k : Int) := by omega
      have hw5 : IntKind.i64.wrap ((k : Int) + 1) = (k : Int) + 1 := IntWalk.i64_in _ (by omega)
      obtain ⟨pa, x, rfl, hx, ex, hx1, hx2⟩ := (HL.out.below HB.out).at k hlt
      have hgd : l.getD k 0 = x := by rw [List.getD_eq_getElem?_getD, hx]; rfl
      have hup : listUp l (k + 1) = if m < x then ((listUp l k).1 ++ [x], x) else listUp l k := by rw [listUp, hgd, ← HM.out]
      obtain ⟨M, hMM⟩ : ∃ M, M = (listUp l k).1 := ⟨_, rfl⟩
      have hMl : M.length ≤ 1000000 := by rw [hMM]; have := listUp_len l k; omega
      rw [← hMM] at HO hup
      by_cases hmx : m < x
      · have d1 : decide (m < x) = true := decide_eq_true hmx
        rw [if_pos hmx] at hup
        have HUP := Lib.hid hup
        obtain ⟨Av, cv, hv⟩ := own_slice HO.out
        subst hv
        have HCK := Lib.hid (int_stays HL.out HB.out hlt ex)
        clear hx hgd hup hMM hmx
        go_wp2_with (at_builtin; refine wpList_append_src _ rfl (.tmp 18) (.tmp 23) 26 rfl w.heap.size 2 i0 (.int .i64 0) 8 Try.underlying26 hi hz0 hz1 hz2 rfl _ M.length _ rfl (World.ownsRow.alloc HO.out _) _ 1 1 _ rfl (one_int_src _ 2 x) (i64V_one [x]) (by unfold maxLen; omega) (by omega) (by have := HB.out.size; simp; omega) ?_; intro v3 w3 hown hgrow _; have HO3 := Lib.hid hown; have HB3 := Lib.hid ((HB.out.alloc HB.out.size _).grown hgrow (by have := HB.out.size; simp; omega) (fun g hg => (HO.out.lt g hg).1)); have ex3 := HCK.out w3 HB3.out; clear hown hgrow)
        go_roundw
        case rel => exact ⟨k + 1, x, by omega, by go_num, rfl, by rw [HUP.out], by rw [HUP.out, List.length_append, List.map_append]; exact HO3.out, HB3.out⟩
        case measure => simp [intOf]; omega
      · have d1 : decide (m < x) = false := decide_eq_false hmx
        rw [if_neg hmx] at hup
        have HUP := Lib.hid hup
        have HMM := Lib.hid hMM
        clear hx hgd hup hMM hmx
        go_wp2
        go_roundw
        case rel => exact ⟨k + 1, m, by omega, by go_num, rfl, by rw [HUP.out]; exact HM.out, by rw [HUP.out, ← HMM.out]; exact HO.out, HB.out⟩
        case measure => simp [intOf]; omega
    · obtain rfl : k = n := by omega
      have hlz : ¬ ((k : Int) < (k : Int)) := by omega
      go_wp2
      go_ret
      refine ⟨_, rfl, ?_, HB.out⟩
      unfold listI
      rw [HLN.out]
      exact HO.out
end Go.Proofs.Ytkligdaademakaa
