/- Contracts of the disk's small functions that only read: has, Acts, Down, part, cutAt, validByte, validName. -/
import Derived.Test.YtblpppeppgfbpaaModel
namespace Go.Proofs.Ytblpppeppgfbpaa
open Go.RowKit Go.Maps Go.WideMaps

theorem strLaw : Keyed Try.prog 9 := string_keyed Try.underlying9
theorem zeroPtr (w : World) : (zeroValue 62).run Try.prog w = .ok (.pointer none) w := by kernel_rfl
def ptrOf : Option Nat → Value
  | some i => at0 i
  | none => .pointer none
theorem keyStr {nm : ByteArray} (hn : nm.size ≤ maxLen) : keyOf Try.prog 9 (.string nm) = some (.string nm.data.toList) := keyOf_string_mk Try.underlying9 hn
/-- A look-up with 'ok' in a directory. -/
theorem look_ok {w : World} {bn : Nat} {d : Dir} (h : dirAt w bn d) {nm : ByteArray} (hn : nm.size ≤ maxLen) :
    (Instr.lookup 67 (.map (some bn)) (.string nm) true).run Try.prog w = .ok (.tuple #[ptrOf (dget d nm.data.toList), .bool (dget d nm.data.toList).isSome]) w := by
  obtain ⟨v, ps, hrun, hv⟩ := h.look_ok strLaw Try.underlying67 (zeroPtr _) (zd := .lit (.bool false)) (zp := []) rfl (keyStr hn)
  rw [toD_has] at hrun
  rw [toD_at] at hv
  rw [hrun]
  cases hg : dget d nm.data.toList with
  | none =>
    rw [hg] at hv
    have : v = .pointer none := by
      unfold ptrElem at hv
      split at hv
      · simp [DataW.lit.injEq] at hv
      · rfl
      · cases hv
    rw [this]; rfl
  | some i =>
    rw [hg] at hv
    rw [ptrElem_inv hv]; rfl
theorem look_at {w : World} {bn : Nat} {d : Dir} (h : dirAt w bn d) {nm : ByteArray} (hn : nm.size ≤ maxLen) :
    (Instr.lookup 67 (.map (some bn)) (.string nm) false).run Try.prog w = .ok (ptrOf (dget d nm.data.toList)) w := by
  obtain ⟨v, ps, hrun, hv⟩ := h.lookup strLaw Try.underlying67 (zeroPtr _) (zd := .lit (.bool false)) (zp := []) rfl (keyStr hn)
  rw [toD_at] at hv
  rw [hrun]
  cases hg : dget d nm.data.toList with
  | none =>
    rw [hg] at hv
    have : v = .pointer none := by
      unfold ptrElem at hv
      split at hv
      · simp [DataW.lit.injEq] at hv
      · rfl
      · cases hv
    rw [this]; rfl
  | some i =>
    rw [hg] at hv
    rw [ptrElem_inv hv]; rfl

set_option maxHeartbeats 400000 in
theorem has_any {w : World} {F : Nat → Prop} {b : Nat} {s : St} (hD : Disk w F b s) (nm : ByteArray) (hn : nm.size ≤ maxLen) :
    Calls Try.prog 29 #[at0 b, .string nm] w fun e w' => e = .returned (.bool (dget s.now nm.data.toList).isSome) ∧ w = w' := by
  obtain ⟨bn, bo, cv, cls, fv, hd⟩ := hD
  have hl := look_ok hd.now hn
  have hc := hd.blk.cell 1
  simp at hc
  unfold at0
  go_enter Try.func29, Try.ntmps29
  go_wp2
  go_ret
  exact ⟨rfl, rfl⟩

set_option maxHeartbeats 400000 in
theorem acts_any {w : World} {F : Nat → Prop} {b : Nat} {s : St} (hD : Disk w F b s) :
    Calls Try.prog 15 #[at0 b] w fun e w' => e = .returned (.int .i64 s.acts) ∧ w = w' := by
  obtain ⟨bn, bo, cv, cls, fv, hd⟩ := hD
  have hc := hd.blk.cell 4
  simp at hc
  unfold at0
  go_enter Try.func15, Try.ntmps15
  go_wp2
  go_ret
  exact ⟨rfl, rfl⟩

set_option maxHeartbeats 400000 in
theorem down_any {w : World} {F : Nat → Prop} {b : Nat} {s : St} (hD : Disk w F b s) :
    Calls Try.prog 16 #[at0 b] w fun e w' => e = .returned (.bool s.down) ∧ w = w' := by
  obtain ⟨bn, bo, cv, cls, fv, hd⟩ := hD
  have hc := hd.blk.cell 6
  simp at hc
  unfold at0
  go_enter Try.func16, Try.ntmps16
  go_wp2
  go_ret
  exact ⟨rfl, rfl⟩

def okByte (c : Nat) : Bool := decide (97 ≤ c) && decide (c ≤ 122) || decide (48 ≤ c) && decide (c ≤ 57) || decide (c = 46)

set_option maxHeartbeats 400000 in
theorem validByte_any (c : UInt8) (w : World) :
    Calls Try.prog 60 #[.int .u8 c.toNat] w fun e w' => e = .returned (.bool (okByte c.toNat)) ∧ w = w' := by
  by_cases h1 : 97 ≤ c.toNat <;> by_cases h2 : c.toNat ≤ 122 <;> by_cases h3 : 48 ≤ c.toNat <;> by_cases h4 : c.toNat ≤ 57 <;> by_cases h5 : c.toNat = 46 <;> try omega
  all_goals
    go_enter Try.func60, Try.ntmps60
    go_wp2
    go_ret
    (simp [okByte, h1, h2, h3, h4, h5]) <;> omega

set_option maxHeartbeats 400000 in
theorem part_neg (n m : Int) (w : World) (h : n < 0) :
    Calls Try.prog 57 #[.int .i64 n, .int .i64 m] w fun e w' => e = .returned (.int .i64 0) ∧ w = w' := by
  go_enter Try.func57, Try.ntmps57
  go_wp2
  go_ret
  exact ⟨rfl, rfl⟩

set_option maxHeartbeats 400000 in
theorem part_pos (n m : Nat) (w : World) (hm : m ≤ 1099511627776) (hn : n ≤ 9223372036854775807) :
    Calls Try.prog 57 #[.int .i64 n, .int .i64 m] w fun e w' => e = .returned (.int .i64 ((n % (m + 1) : Nat) : Int)) ∧ w = w' := by
  go_enter Try.func57, Try.ntmps57
  go_wp2
  go_ret
  exact ⟨rfl, rfl⟩

/-- 'part' as a function. -/
def partN (n : Int) (m : Nat) : Nat := if n < 0 then 0 else n.toNat % (m + 1)
theorem partN_le (n : Int) (m : Nat) : partN n m ≤ m := by
  unfold partN
  split
  · omega
  · have := Nat.mod_lt n.toNat (show 0 < m + 1 by omega)
    omega
theorem part_any (n : Int) (m : Nat) (w : World) (hm : m ≤ 1099511627776) (hn : n ≤ 9223372036854775807) :
    Calls Try.prog 57 #[.int .i64 n, .int .i64 m] w fun e w' => e = .returned (.int .i64 (partN n m)) ∧ w = w' := by
  by_cases h : n < 0
  · refine (part_neg n m w h).mono fun e w' ⟨he, hw⟩ => ⟨?_, hw⟩
    rw [he, partN, if_pos h]; rfl
  · obtain ⟨k, rfl⟩ := Int.eq_ofNat_of_zero_le (show 0 ≤ n by omega)
    refine (part_pos k m w hm (by omega)).mono fun e w' ⟨he, hw⟩ => ⟨?_, hw⟩
    rw [he, partN, if_neg h]
    simp

def okName (s : List UInt8) : Bool := decide (1 ≤ s.length) && decide (s.length ≤ 24) && s.all fun c => okByte c.toNat

theorem all_take_snoc (s : ByteArray) (k : Nat) (h : k < s.size) (p : UInt8 → Bool) : (s.data.toList.take (k + 1)).all p = ((s.data.toList.take k).all p && p s[k]) := by
  have e : s.data.toList.take (k + 1) = s.data.toList.take k ++ [s[k]] := by
    rw [List.take_succ_eq_append_getElem (by simpa using h)]; rfl
  rw [e, List.all_append]
  simp

set_option maxHeartbeats 400000 in
theorem validName_any (s : ByteArray) (w : World) (hs : s.size ≤ maxLen) :
    Calls Try.prog 28 #[.string s] w fun e w' => e = .returned (.bool (okName s.data.toList)) ∧ w = w' := by
  unfold maxLen at hs
  have hsz : s.data.toList.length = s.size := by simp
  by_cases h1 : s.size < 1
  · have hf : okName s.data.toList = false := by simp [okName, hsz]; omega
    rw [hf]
    clear hsz hf
    go_enter Try.func28, Try.ntmps28
    go_wp2
    go_ret
    exact ⟨rfl, rfl⟩
  by_cases h2 : 24 < s.size
  · have hf : okName s.data.toList = false := by simp [okName, hsz]; omega
    rw [hf]
    clear hsz hf
    go_enter Try.func28, Try.ntmps28
    go_wp2
    go_ret
    exact ⟨rfl, rfl⟩
  have hall : okName s.data.toList = s.data.toList.all fun c => okByte c.toNat := by simp [okName, hsz]; omega
  have HALL := Lib.hid hall; clear hall
  have HSZ := Lib.hid hsz; clear hsz
  go_enter Try.func28, Try.ntmps28
  go_wp2
  go_loop [14] (fun i => ∃ k : Nat, k ≤ s.size ∧ i = .int .i64 k ∧ ((s.data.toList.take k).all fun c => okByte c.toNat) = true) (fun i => s.size - (intOf i).toNat)
  case atStart => exact ⟨0, Nat.zero_le _, rfl, by simp⟩
  case round =>
    obtain ⟨k, hk, rfl, hp⟩ := hrel
    have HP := Lib.hid hp; clear hp
    by_cases hlt : k < s.size
    · have hsn := Lib.hid (all_take_snoc s k hlt fun c => okByte c.toNat)
      cases hb : okByte (s[k]).toNat
      · have HB := Lib.hid hb
        go_wp2_with (go_at_call 60; refine (validByte_any _ _).mono ?_; rintro e w' ⟨rfl, rfl⟩; rw [HB.out])
        go_ret
        refine ⟨?_, rfl⟩
        rw [HALL.out, ← List.take_append_drop (k + 1) s.data.toList, List.all_append, hsn.out, HP.out, HB.out]; rfl
      · have HB := Lib.hid hb
        go_wp2_with (go_at_call 60; refine (validByte_any _ _).mono ?_; rintro e w' ⟨rfl, rfl⟩; rw [HB.out])
        go_round
        case rel => exact ⟨k + 1, by omega, by go_num, by rw [hsn.out, HP.out, HB.out]; rfl⟩
        case measure => simp [intOf]; omega
    · go_wp2
      go_ret
      refine ⟨?_, rfl⟩
      have e : s.data.toList.take k = s.data.toList := List.take_of_length_le (by rw [HSZ.out]; omega)
      have h := HP.out
      rw [e] at h
      rw [HALL.out, h]; rfl
end Go.Proofs.Ytblpppeppgfbpaa
