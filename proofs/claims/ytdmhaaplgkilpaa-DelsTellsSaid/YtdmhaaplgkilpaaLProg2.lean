/- The contracts of the program's Get and over. -/
import Derived.Test.YtdmhaaplgkilpaaLWords
namespace Go.Proofs.Ytdmhaaplgkilpaa
open Go.RowKit Go.Maps Go.WideMaps

set_option maxHeartbeats 4000000 in
set_option maxRecDepth 100000 in
theorem lGet_any (w : World) (A : Option Addr) (n c : Nat) (l : Nm) (hl : BytesIn w A n l) :
    Calls Try.prog 24 #[.slice A n c] w fun e w' => e = .returned (gotV (getL l)) ∧ w' = w := by
  have HL := Lib.hid hl
  have hln : l.length = n := by have := hl.2.1.len; simpa using this
  have HLN := Lib.hid hln
  clear hl hln
  have hn63 : n ≤ 9223372036854775807 := HL.out.1
  go_enter Try.func24, Try.ntmps24
  go_wp2
  go_loop [5, 10] (fun a i => ∃ acc k : Nat, k ≤ 9 ∧ a = .int .u64 acc ∧ i = .int .i64 k ∧ acc < 2 ^ (7 * k) ∧ k ≤ n ∧ getAux k acc (l.drop k) = getL l) (fun _ i => 10 - (intOf i).toNat)
  case atStart => exact ⟨0, 0, by omega, rfl, rfl, by omega, by omega, rfl⟩
  case round =>
    obtain ⟨acc, k, hk, rfl, rfl, hacc, hkn, hg⟩ := hrel
    have HG := Lib.hid hg
    have HACC := Lib.hid hacc
    clear hg hacc
    rcases Nat.lt_or_ge k n with hlt | hge
    · have hlt' : (k : Int) < (n : Int) := by omega
      obtain ⟨ad, x, rfl, hx, hcx⟩ := HL.out.at k hlt
      have hx8 := x.toNat_lt
      have HX := Lib.hid hx
      clear hx
      have a1 := and127_8 x.toNat (by omega)
      have hdrop : l.drop k = x :: l.drop (k + 1) := by
        obtain ⟨h1, h2⟩ := List.getElem?_eq_some_iff.1 HX.out
        rw [← h2, List.getElem_cons_drop]
      have HD := Lib.hid hdrop
      clear hdrop
      by_cases hbad : (k = 9 ∧ 1 < x.toNat) ∨ (x.toNat = 0 ∧ 0 < k)
      · have hend : getL l = (0, 0, 32) := by
          rw [← HG.out, HD.out]
          simp only [getAux]
          rw [if_pos hbad]
        rw [hend]
        rcases hbad with ⟨h9, h1⟩ | ⟨h1, h2⟩
        · have h9b : ((k : Int) == 9) = true := by rw [h9]; rfl
          have h1z : (1 : Int) < (x.toNat : Int) := by omega
          clear h9
          go_wp2
          go_ret3
          exact ⟨rfl, rfl⟩
        · have h1b : ((x.toNat : Int) == 0) = true := by rw [h1]; rfl
          have h1z : ¬ (1 : Int) < (x.toNat : Int) := by omega
          have h2z : (0 : Int) < (k : Int) := by omega
          clear h1
          by_cases h9 : k = 9
          · have h9b : ((k : Int) == 9) = true := by rw [h9]; rfl
            clear h9
            go_wp2
            go_ret3
            exact ⟨rfl, rfl⟩
          · have h9b : ((k : Int) == 9) = false := by simp; omega
            go_wp2
            go_ret3
            exact ⟨rfl, rfl⟩
      · have h91 : k = 9 → x.toNat ≤ 1 := fun e => by
          rcases Nat.lt_or_ge 1 x.toNat with h | h
          · exact absurd (Or.inl ⟨e, h⟩) hbad
          · exact h
        have h0k : 0 < k → 0 < x.toNat := fun e => by
          rcases Nat.eq_zero_or_pos x.toNat with h | h
          · exact absurd (Or.inr ⟨h, e⟩) hbad
          · exact h
        have hsh := shl_or acc k x.toNat HACC.out hk (fun e => by have := h91 e; omega)
        obtain ⟨acc', hacc'⟩ : ∃ a, a = acc + x.toNat % 128 * 2 ^ (7 * k) := ⟨_, rfl⟩
        rw [← hacc'] at hsh
        have HA := Lib.hid hacc'
        have HBAD := Lib.hid hbad
        have H91 := Lib.hid h91
        have H0K := Lib.hid h0k
        clear hacc' hbad h91 h0k
        have hres : x.toNat < 128 → getL l = (acc', k + 1, 0) := fun hs => by
          rw [← HG.out, HD.out]
          simp only [getAux]
          rw [if_neg HBAD.out, if_pos hs, HA.out]
        have hnext : 128 ≤ x.toNat → acc' < 2 ^ (7 * (k + 1)) ∧ getAux (k + 1) acc' (l.drop (k + 1)) = getL l ∧ k + 1 ≤ 9 := fun hs => by
          refine ⟨?_, ?_, ?_⟩
          · rw [HA.out, pow7]
            have h1 := HACC.out
            have h2 : x.toNat % 128 + 1 ≤ 128 := by omega
            have h3 := Nat.mul_le_mul_right (2 ^ (7 * k)) h2
            rw [Nat.add_mul] at h3
            omega
          · rw [← HG.out, HD.out]
            simp only [getAux]
            rw [if_neg HBAD.out, if_neg (by omega), HA.out]
          · rcases Nat.lt_or_ge k 9 with h | h
            · exact h
            · have := H91.out (by omega)
              omega
        have HRES := Lib.hid hres
        have HNX := Lib.hid hnext
        clear hres hnext
        have fin1 : ∀ hs : x.toNat < 128, Ending.returned (.tuple #[.int .u64 acc', .int .i64 ((k : Int) + 1), .int .i64 0]) = .returned (gotV (getL l)) := fun hs => by
          rw [HRES.out hs]
          rfl
        have HF := Lib.hid fin1
        clear fin1
        by_cases h9 : k = 9
        · have h9b : ((k : Int) == 9) = true := by rw [h9]; rfl
          have h1z : ¬ (1 : Int) < (x.toNat : Int) := by have := H91.out h9; omega
          have hk0z : (0 : Int) < (k : Int) := by omega
          have hc0 : ((x.toNat : Int) == 0) = false := by have := H0K.out (by omega); simp; omega
          have hs : x.toNat < 128 := by have := H91.out h9; omega
          have hsz : (x.toNat : Int) < 128 := by omega
          clear h9
          go_wp2
          go_ret3
          exact ⟨HF.out hs, rfl⟩
        · have h9b : ((k : Int) == 9) = false := by simp; omega
          by_cases hk0 : k = 0
          · have hk0z : ¬ (0 : Int) < (k : Int) := by omega
            clear hk0
            rcases Nat.lt_or_ge x.toNat 128 with hs | hs
            · have hsz : (x.toNat : Int) < 128 := by omega
              go_wp2
              go_ret3
              exact ⟨HF.out hs, rfl⟩
            · have hsz : ¬ (x.toNat : Int) < 128 := by omega
              obtain ⟨n1, n2, n3⟩ := HNX.out hs
              have N1 := Lib.hid n1
              have N2 := Lib.hid n2
              clear n1 n2
              go_wp2
              exact ⟨⟨acc', k + 1, n3, rfl, by go_num, N1.out, by omega, N2.out⟩, by simp [intOf]; omega⟩
          · have hk0z : (0 : Int) < (k : Int) := by omega
            have hc0 : ((x.toNat : Int) == 0) = false := by have := H0K.out (by omega); simp; omega
            rcases Nat.lt_or_ge x.toNat 128 with hs | hs
            · have hsz : (x.toNat : Int) < 128 := by omega
              go_wp2
              go_ret3
              exact ⟨HF.out hs, rfl⟩
            · have hsz : ¬ (x.toNat : Int) < 128 := by omega
              obtain ⟨n1, n2, n3⟩ := HNX.out hs
              have N1 := Lib.hid n1
              have N2 := Lib.hid n2
              clear n1 n2
              go_wp2
              exact ⟨⟨acc', k + 1, n3, rfl, by go_num, N1.out, by omega, N2.out⟩, by simp [intOf]; omega⟩
    · have hlt' : ¬ (k : Int) < (n : Int) := by omega
      have hend : getL l = (0, 0, 31) := by rw [← HG.out, List.drop_of_length_le (by rw [HLN.out]; exact hge)]; rfl
      rw [hend]
      go_wp2
      go_ret3
      exact ⟨rfl, rfl⟩
theorem lGet_is (w : World) (A : Option Addr) (n c : Nat) (l : Nm) (hl : BytesIn w A n l) {v j : Nat} {e : Int} (hg : getL l = (v, j, e)) :
    Calls Try.prog 24 #[.slice A n c] w fun e2 w' => e2 = .returned (.tuple #[.int .u64 v, .int .i64 j, .int .i64 e]) ∧ w' = w := by
  have h := lGet_any w A n c l hl
  rw [hg] at h
  exact h
end Go.Proofs.Ytdmhaaplgkilpaa
