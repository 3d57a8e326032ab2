/- The contracts of the document's New and SameNums. -/
import Derived.Test.YtmncnbnloonenaaLRef6
namespace Go.Proofs.Ytmncnbnloonenaa
open Go.RowKit Go.Maps Go.WideMaps

theorem own_le {w : World} {base : Nat} {e : TypeId} {A : Option Addr} {n c : Nat} {xs : List Value} (h : w.ownsRow base e 1 (.slice A n c) n xs) : n ≤ c := by
  obtain ⟨A', c', h1, h2⟩ := own_cap h
  injection h1 with _ _ h3
  omega
theorem reader3Info : (Try.prog.info? 51).map (fun i => (i.zero, i.size)) = some (some (.agg #[.slice none 0 0, .int .i64 0, .int .i64 0]), 3) := by kernel_rfl

set_option maxHeartbeats 4000000 in
set_option maxRecDepth 100000 in
theorem r3New_any (w : World) (A : Option Addr) (n c : Nat) (l : Nm) (hl : BytesIn w A n l) (hn : n ≤ 1099511627776) :
    Calls Try.prog 21 #[.slice A n c] w fun e w' => ∃ b A' c', e = .returned (at0 b) ∧ w.heap.size ≤ b ∧ IsR3 w' b ⟨l, 0, 0⟩ A' c' ∧ Below w.heap.size w w' ∧ (∀ ad, A' = some ad → 0 < n → w.heap.size ≤ ad.block) := by
  have HL := Lib.hid (BytesIn.below hl ((Below.refl _ w).alloc (Nat.le_refl _) (.cells #[] 5)))
  have hln : l.length = n := by have := hl.2.1.len; simpa using this
  have HLN := Lib.hid hln
  clear hl hln
  obtain ⟨i0, hi, hz0, hz1, hz2⟩ := info_parts byteInfo
  go_enter Try.func21, Try.ntmps21
  go_wp2_with (at_builtin; refine wpList_append_src _ rfl (.tmp 3) (.tmp 4) 23 rfl w.heap.size 5 i0 (.int .u8 0) 1 Try.underlying23 hi hz0 hz1 hz2 rfl _ 0 [] rfl (World.ownsRow_made w #[] 0 (Nat.le_refl _) (Nat.zero_le _) rfl) A n c (l.map byteV) rfl HL.out.2.1 (u8_one l) (by unfold maxLen; omega) (by omega) (by simp) ?_; intro v w2 hown hgrow hloc; obtain ⟨A2, c2, hv⟩ := own_slice hown; subst hv; rw [Nat.zero_add, List.nil_append] at hown; have HO := Lib.hid hown; have HB : Hid (Below w.heap.size w w2) := Lib.hid ((((Below.refl _ w).alloc (Nat.le_refl _) (.cells #[] 5)).grown hgrow (by simp) (fun k e => by cases e; exact Nat.le_refl _))); clear hown hgrow hloc)
  go_ret
  have hs := HB.out.size
  have h2 : BytesIn w2 A2 n l := BytesIn.own HO.out (by unfold maxLen; omega)
  have h3 := h2.below ((Below.refl _ w2).alloc (Nat.le_refl _) (.cells #[.slice A2 n c2, .int .i64 0, .int .i64 0] 51))
  refine ⟨w2.heap.size, A2, c2, rfl, hs, ⟨?_, ?_, ?_, ?_, ⟨Nat.zero_le _⟩, ?_⟩, HB.out.alloc hs _, fun ad e h0 => ?_⟩
  · rw [HLN.out]
    exact Blk.new w2 _ _
  · rw [HLN.out]; exact h3
  · rw [HLN.out]; exact own_le HO.out
  · rw [HLN.out]
    intro ad e h0
    have := h2.2.2 ad e h0
    omega
  · show l.length ≤ _
    rw [HLN.out]; exact hn
  · exact (HO.out.lt ad.block (by rw [e]; rfl)).1

set_option maxHeartbeats 4000000 in
set_option maxRecDepth 100000 in
theorem r3Same_any (w : World) (A B : Option Addr) (n m ca cb : Nat) (la lb : List Int) (ha : IntsIn w A n la) (hb : IntsIn w B m lb) :
    Calls Try.prog 19 #[.slice A n ca, .slice B m cb] w fun e w' => e = .returned (.bool (decide (la = lb))) ∧ ∃ q, w' = w.drewN q := by
  have HA := Lib.hid ha
  have HB := Lib.hid hb
  have HLA := Lib.hid ha.len
  have HLB := Lib.hid hb.len
  have hn63 : n ≤ 9223372036854775807 := ha.1
  clear ha hb
  by_cases hnm : n = m
  · subst hnm
    have d0 : (((n : Nat) : Int) != ((n : Nat) : Int)) = false := by simp
    obtain ⟨R, hR⟩ : ∃ R, R = decide (la = lb) := ⟨_, rfl⟩
    rw [← hR]
    have HR := Lib.hid hR
    clear hR
    go_enter Try.func19, Try.ntmps19
    go_wp2
    go_loopw [5] (fun i wr => ∃ k q : Nat, k ≤ n ∧ i = .int .i64 k ∧ la.take k = lb.take k ∧ wr = w.drewN q) (fun i _ => n - (intOf i).toNat)
    case atStart => exact ⟨0, 0, by omega, rfl, rfl, rfl⟩
    case round =>
      obtain ⟨k, q, hk, rfl, ht, rfl⟩ := hrel
      have HT := Lib.hid ht
      clear ht
      rcases Nat.lt_or_ge k n with hlt | hge
      · have hlt' : (k : Int) < (n : Int) := by omega
        have p0 : (0 : Int) ≤ (k : Int) := by omega
        obtain ⟨pa, xa, rfl, hxa, ca', -, -⟩ := HA.out.at k hlt
        obtain ⟨pb, xb, rfl, hxb, cb', -, -⟩ := HB.out.at k hlt
        have HXA := Lib.hid hxa
        have HXB := Lib.hid hxb
        clear hxa hxb
        by_cases hx : xa = xb
        · subst hx
          go_wp2_with fail
          go_quiet (fail)
          go_wp2
          go_roundw
          case rel => exact ⟨k + 1, _, by omega, by go_num, by rw [take_snoc HXA.out, take_snoc HXB.out, HT.out], rfl⟩
          case measure => simp [intOf]; omega
        · have d1 : (xa != xb) = true := by simpa using hx
          have hne : ¬ la = lb := fun e => hx (by
            have h1 := HXA.out
            rw [e, HXB.out] at h1
            exact (Option.some.inj h1).symm)
          have HNE := Lib.hid hne
          clear hne hx
          go_wp2_with fail
          go_quiet (fail)
          go_wp2
          go_ret
          refine ⟨?_, _, World.drewN_drewN _ _ _⟩
          rw [HR.out, decide_eq_false HNE.out]
          rfl
      · obtain rfl : k = n := by omega
        have hlz : ¬ ((k : Int) < (k : Int)) := by omega
        have heq : la = lb := by
          have h1 := HT.out
          rwa [List.take_of_length_le (by rw [HLA.out]; exact Nat.le_refl _), List.take_of_length_le (by rw [HLB.out]; exact Nat.le_refl _)] at h1
        have HEQ := Lib.hid heq
        clear heq
        go_wp2
        go_ret
        refine ⟨?_, _, rfl⟩
        rw [HR.out, decide_eq_true HEQ.out]
        rfl
  · have d0 : (((n : Nat) : Int) != ((m : Nat) : Int)) = true := by simpa using fun e => hnm (by omega)
    have hne : ¬ la = lb := fun e => hnm (by rw [← HLA.out, ← HLB.out, e])
    rw [decide_eq_false hne]
    clear hne hnm
    go_enter Try.func19, Try.ntmps19
    go_wp2
    go_ret
    exact ⟨rfl, 0, rfl⟩
end Go.Proofs.Ytmncnbnloonenaa
