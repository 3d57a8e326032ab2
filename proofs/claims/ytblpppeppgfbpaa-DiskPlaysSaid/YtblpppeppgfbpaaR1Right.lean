/- The document's disk: a name that is right. -/
import Derived.Test.YtblpppeppgfbpaaReads
namespace Go.Proofs.Ytblpppeppgfbpaa
open Go.RowKit Go.Maps Go.WideMaps

set_option maxHeartbeats 1000000 in
set_option maxRecDepth 100000 in
theorem Right_any (s : ByteArray) (w : World) (hs : s.size ≤ maxLen) :
    Calls Try.prog 34 #[.string s] w fun e w' => e = .returned (.bool (okName s.data.toList)) ∧ w = w' := by
  unfold maxLen at hs
  have hsz : s.data.toList.length = s.size := by simp
  by_cases h1 : s.size < 1
  · have hf : okName s.data.toList = false := by simp [okName, hsz]; omega
    rw [hf]
    clear hsz hf
    go_enter Try.func34, Try.ntmps34
    go_wp2
    go_ret
    exact ⟨rfl, rfl⟩
  by_cases h2 : 24 < s.size
  · have hf : okName s.data.toList = false := by simp [okName, hsz]; omega
    rw [hf]
    clear hsz hf
    go_enter Try.func34, Try.ntmps34
    go_wp2
    go_ret
    exact ⟨rfl, rfl⟩
  have hall : okName s.data.toList = s.data.toList.all fun c => okByte c.toNat := by simp [okName, hsz]; omega
  have HALL := Lib.hid hall; clear hall
  have HSZ := Lib.hid hsz; clear hsz
  go_enter Try.func34, Try.ntmps34
  go_wp2
  go_loop [3] (fun i => ∃ k : Nat, k ≤ s.size ∧ i = .int .i64 k ∧ ((s.data.toList.take k).all fun c => okByte c.toNat) = true) (fun i => s.size - (intOf i).toNat)
  case atStart => exact ⟨0, Nat.zero_le _, rfl, by simp⟩
  case round =>
    obtain ⟨k, hk, rfl, hp⟩ := hrel
    have HP := Lib.hid hp; clear hp
    by_cases hlt : k < s.size
    · have hsn := Lib.hid (all_take_snoc s k hlt fun c => okByte c.toNat)
      have key : ∀ b : Bool, okByte (s[k]).toNat = b → (b = false → okName s.data.toList = false) ∧ (b = true → ((s.data.toList.take (k + 1)).all fun c => okByte c.toNat) = true) := fun b hb => by
        refine ⟨fun e => ?_, fun e => by rw [hsn.out, HP.out, hb, e]; rfl⟩
        rw [HALL.out, ← List.take_append_drop (k + 1) s.data.toList, List.all_append, hsn.out, HP.out, hb, e]; rfl
      have KEY := Lib.hid key
      clear key
      by_cases h5 : (s[k]).toNat = 46
      · have hv : okByte (s[k]).toNat = true := by simp [okByte, h5]
        have KV := Lib.hid ((KEY.out _ hv).2 rfl)
        have t5 : (((s[k]).toNat : Int) != 46) = false := by simp; omega
        clear hv h5
        go_wp2
        go_round
        case rel => exact ⟨k + 1, by omega, by go_num, KV.out⟩
        case measure => simp [intOf]; omega
      · have t5 : (((s[k]).toNat : Int) != 46) = true := by simp; omega
        by_cases hL : (s[k]).toNat < 97 ∨ 122 < (s[k]).toNat
        · by_cases hD : (s[k]).toNat < 48 ∨ 57 < (s[k]).toNat
          · have hv : okByte (s[k]).toNat = false := by simp [okByte, h5]; omega
            have KV := Lib.hid ((KEY.out _ hv).1 rfl)
            clear hv h5
            rcases hL with hL | hL <;> rcases hD with hD | hD
            all_goals
              first | omega | skip
            all_goals
              go_wp2
              go_ret
              exact ⟨by rw [KV.out]; rfl, rfl⟩
          · have hv : okByte (s[k]).toNat = true := by simp [okByte]; omega
            have KV := Lib.hid ((KEY.out _ hv).2 rfl)
            have d1 : ¬ (s[k]).toNat < 48 := by omega
            have d2 : ¬ 57 < (s[k]).toNat := by omega
            clear hv h5 hD
            rcases hL with hL | hL
            all_goals
              first | omega | skip
            all_goals
              go_wp2
              go_round
              case rel => exact ⟨k + 1, by omega, by go_num, KV.out⟩
              case measure => simp [intOf]; omega
        · have hv : okByte (s[k]).toNat = true := by simp [okByte]; omega
          have KV := Lib.hid ((KEY.out _ hv).2 rfl)
          have d1 : ¬ (s[k]).toNat < 97 := by omega
          have d2 : ¬ 122 < (s[k]).toNat := by omega
          clear hv h5 hL
          go_wp2
          go_round
          case rel => exact ⟨k + 1, by omega, by go_num, KV.out⟩
          case measure => simp [intOf]; omega
    · go_wp2
      go_ret
      refine ⟨?_, rfl⟩
      have e : s.data.toList.take k = s.data.toList := List.take_of_length_le (by rw [HSZ.out]; omega)
      have h := HP.out
      rw [e] at h
      rw [HALL.out, h]; rfl

end Go.Proofs.Ytblpppeppgfbpaa
