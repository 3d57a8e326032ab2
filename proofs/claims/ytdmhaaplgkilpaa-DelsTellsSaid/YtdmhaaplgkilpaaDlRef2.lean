/- The document's Dels: Live. -/
import Derived.Test.YtdmhaaplgkilpaaDlRef1
import Derived.Test.YtdmhaaplgkilpaaDpMath
namespace Go.Proofs.Ytdmhaaplgkilpaa
open Go.RowKit Go.Maps Go.WideMaps
set_option linter.unusedSimpArgs false

set_option maxHeartbeats 8000000 in
set_option maxRecDepth 100000 in
theorem r14Live_any {w : World} {base b : Nat} {s : DSt} {L : List Int} {v : Value} (h : RAt w base b s L v) :
    Calls Try.prog 13 #[.pointer (some ⟨b, 0, none⟩)] w fun e w' => ∃ A c, e = .returned (.slice A (dLive s).length c) ∧ IntsIn w' A (dLive s).length (dLive s) ∧ (dLive s).length ≤ c ∧ Below w.heap.size w w' := by
  have HH := Lib.hid h
  have hfw := h.few
  have hbl := h.blk.lt
  obtain ⟨i0, hi, hz0, hz1, hz2⟩ := info_parts intInfoR
  rw [← liveTo_is]
  have HFT := Lib.hid (liveTo_fits s.f hfw)
  have HC0 : Hid (∀ u : World, Below w.heap.size w u → u.cell? ⟨b, 0, none⟩ = some (.int .i64 s.n)) := Lib.hid (fun u hu => by
    have c0 := (h.later hu).blk.cell 0
    simpa only [List.getElem?_toArray, List.getElem?_cons_zero, List.getElem?_cons_succ] using c0)
  obtain ⟨f, hf⟩ : ∃ f, f = s.f := ⟨_, rfl⟩
  obtain ⟨n, hn⟩ : ∃ n, n = s.n := ⟨_, rfl⟩
  rw [← hf, ← hn] at HFT
  rw [← hn] at HC0 hfw
  rw [← hf, ← hn]
  have HF := Lib.hid hf
  have HN := Lib.hid hn
  clear h hf hn
  go_enter Try.func13, Try.ntmps13
  go_wp2_with fail
  go_loopw [3, 4] (fun v jv wr => ∃ (j : Nat), j ≤ n ∧ jv = .int .i64 j ∧ wr.ownsRow w.heap.size 2 1 v (liveTo f j).length ((liveTo f j).map i64V) ∧ Below w.heap.size w wr) (fun _ jv _ => n - (intOf jv).toNat)
  case atStart => exact ⟨0, by omega, rfl, ⟨rfl, .inl ⟨rfl, rfl⟩⟩, Below.refl _ _⟩
  case round =>
    obtain ⟨j, hj, rfl, ho, hb⟩ := hrel
    have HB := Lib.hid hb
    have hs := hb.size
    have hrl := liveTo_le f j
    have HO := Lib.hid ho
    have c0 := HC0.out wr HB.out
    obtain ⟨A0, c0', hv0⟩ := own_slice ho
    subst hv0
    clear ho hb
    rcases Nat.lt_or_ge j n with hlt | hge
    · have hlt' : (j : Int) < (n : Int) := by omega
      have hw1 : IntKind.i64.wrap ((j : Int) + 1) = (j : Int) + 1 := IntWalk.i64_in _ (by omega)
      have hh : dHas s j = f j := by unfold dHas; rw [← HN.out, decide_eq_true (⟨by omega, hlt'⟩ : 0 ≤ (j : Int) ∧ (j : Int) < (n : Int)), Bool.true_and, Int.toNat_natCast, HF.out]
      have HC : Hid (Calls Try.prog 19 #[.pointer (some ⟨b, 0, none⟩), .int .i64 j] wr fun e w' => e = .returned (.bool (f j)) ∧ w' = wr) := Lib.hid (by rw [← hh]; exact r14Has_any (HH.out.later HB.out) j)
      obtain ⟨t, ht⟩ : ∃ t, t = f j := ⟨_, rfl⟩
      rw [← ht] at HC
      have HT := Lib.hid ht
      clear hh ht
      obtain ⟨w1, hw1'⟩ : ∃ zz, zz = wr := ⟨_, rfl⟩
      subst hw1'
      go_wp2_with fail
      refine HC.out.mono ?_
      rintro e w2 ⟨rfl, rfl⟩
      clear HC
      cases t with
      | true =>
        have HST := Lib.hid (liveTo_yes HT.out.symm)
        go_wp2
        go_roundw
        case rel => exact ⟨j + 1, by omega, by go_num, by rw [HST.out]; exact HO.out, HB.out⟩
        case measure => simp [intOf]; omega
      | false =>
        have HST := Lib.hid (liveTo_no HT.out.symm)
        have HO2 := Lib.hid (own_alloc64r HO.out (.cells #[.int .i64 j] 2))
        have HB2 := Lib.hid (HB.out.alloc hs (.cells #[.int .i64 j] 2))
        have HSRC := Lib.hid (one_int_src w2 2 j)
        clear HO HT
        go_wp2_with (at_builtin; refine wpList_append_src _ rfl (.tmp 19) (.tmp 21) 22 rfl w.heap.size 2 i0 (.int .i64 0) 8 Try.underlying22 hi hz0 hz1 hz2 rfl _ (liveTo f j).length ((liveTo f j).map i64V) rfl HO2.out _ 1 1 ([(j : Int)].map i64V) rfl HSRC.out (i64V_one _) (by unfold maxLen; omega) (by omega) (by have := HB.out.size; simp; omega) ?_; intro v w3 hown hgrow hloc; obtain ⟨A2, c2, hv⟩ := own_slice hown; subst hv; have HO3 := Lib.hid hown; have HB3 : Hid (Below w.heap.size w w3) := Lib.hid (HB2.out.grown hgrow HB2.out.size (fun g hg => (HO2.out.lt g hg).1)); clear hown hgrow hloc)
        go_roundw
        case rel => exact ⟨j + 1, by omega, by go_num, by rw [HST.out, List.map_append, List.length_append]; exact HO3.out, HB3.out⟩
        case measure => simp [intOf]; omega
    · have hlz : ¬ ((j : Int) < (n : Int)) := by omega
      obtain rfl : j = n := by omega
      go_wp2
      go_ret
      exact ⟨A0, c0', rfl, IntsIn.own HO.out (by unfold maxLen; omega) HFT.out, rowCap_le HO.out, HB.out⟩
end Go.Proofs.Ytdmhaaplgkilpaa
