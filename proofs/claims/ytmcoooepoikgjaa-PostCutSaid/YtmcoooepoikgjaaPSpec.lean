/- What the laws of post ask of the program; and what they call besides. -/
import Derived.Test.YtmcoooepoikgjaaPWords
namespace Go.Proofs.Ytmcoooepoikgjaa
open Go.RowKit Go.Maps Go.WideMaps

/-- The contracts of the program's post. -/
structure PostOk : Prop where
  put : ∀ (w : World) (A : Option Addr) (n c : Nat) (l : List Pst), PostsSee w A n l → n ≤ c → n ≤ 1000000 → (∀ x ∈ l, x.2.length ≤ 1000000) → Calls Try.prog 9 #[.slice A n c] w (PutPOut w l)
  get : ∀ (w : World) (A : Option Addr) (n c : Nat) (b : Nm), BytesIn w A n b → n ≤ c → n ≤ 1099511627776 → Calls Try.prog 11 #[.slice A n c] w (GetPOut w (getP b))

theorem put_is (hK : PostOk) {w : World} {A : Option Addr} {n c : Nat} {l : List Pst} (h : PostsSee w A n l) (hc : n ≤ c) (hn : n ≤ 1000000) (hs : ∀ x ∈ l, x.2.length ≤ 1000000) {b : List UInt8} {r : Int} (hb : putE l = b) (hr : checkP l = r) : Calls Try.prog 9 #[.slice A n c] w (PutFound w b r) := put_found (fit_of h) (hK.put w A n c l h hc hn hs) hb hr
theorem get_is (hK : PostOk) {w : World} {A : Option Addr} {n c : Nat} {b : Nm} (h : BytesIn w A n b) (hc : n ≤ c) (hn : n ≤ 1099511627776) {l : List Pst} {r : Int} (hg : getP b = (l, r)) : Calls Try.prog 11 #[.slice A n c] w (GetFound w l r) := get_found (hK.get w A n c b h hc hn) hg
set_option maxHeartbeats 4000000 in
set_option maxRecDepth 100000 in
theorem postGreat_any (w : World) (A : Option Addr) (n c : Nat) (l : List Pst) (h : PostsSee w A n l) (hn : n ≤ 140737488351232) (hz : ∀ x ∈ l, x.2.length ≤ 140737488351232) :
    Calls Try.prog 8 #[.slice A n c] w fun e w' => ∃ r, e = .returned (.bool r) ∧ w' = w ∧ (r = false → n + spUp l n < 20000 ∧ ∀ x ∈ l, x.2.length < 20000) := by
  have HP := Lib.hid h
  have HLEN := Lib.hid h.len
  have HZ := Lib.hid hz
  clear h hz
  go_enter Try.func8, Try.ntmps8
  go_wp2
  go_loopw [3, 4] (fun v i wr => ∃ k N : Nat, k ≤ n ∧ v = .int .i64 N ∧ i = .int .i64 k ∧ wr = w ∧ n ≤ N ∧ N ≤ 281474976800000 ∧ N = n + spUp l k) (fun _ i _ => n - (intOf i).toNat)
  case atStart => exact ⟨0, n, by omega, rfl, rfl, rfl, by omega, by omega, rfl⟩
  case round =>
    obtain ⟨k, N, hk, rfl, rfl, rfl, h1, h2, h3⟩ := hrel
    have H3 := Lib.hid h3
    clear h3
    by_cases hg : k < n ∧ N < 20000
    · have hlt' : (k : Int) < (n : Int) := by omega
      have d1 : decide ((k : Int) < (n : Int)) = true := by simpa using hg.1
      have d2 : decide ((N : Int) < 20000) = true := by simp; omega
      have p0 : (0 : Int) ≤ (k : Int) := by omega
      obtain ⟨pa, x, SA, da, rfl, hx, -, a0, a1, -, -⟩ := HP.out.at k hg.1
      have hxz := HZ.out x (List.mem_of_getElem? hx)
      have hpx := pAt_eq hx
      obtain ⟨K, hK⟩ : ∃ K, K = x.2.length := ⟨_, rfl⟩
      rw [← hK] at a1 hxz
      have hw2 : IntKind.i64.wrap ((N : Int) + (K : Int)) = ((N + K : Nat) : Int) := by rw [IntWalk.i64_in _ (by omega)]; push_cast; rfl
      have hw3 : IntKind.i64.wrap ((k : Int) + 1) = (k : Int) + 1 := IntWalk.i64_in _ (by omega)
      have HNX : Hid (N + K = n + spUp l (k + 1)) := Lib.hid (by have := H3.out; simp only [spUp, hpx]; omega)
      clear hx hpx hK
      go_wp2
      go_roundw
      case rel => exact ⟨k + 1, N + K, by omega, by go_num, by go_num, by first | rfl | trivial, by omega, by omega, HNX.out⟩
      case measure => simp [intOf]; omega
    · by_cases hkn : k < n
      · have d1 : decide ((k : Int) < (n : Int)) = true := by simpa using hkn
        have d2 : decide ((N : Int) < 20000) = false := by simp; omega
        have d3 : decide ((20000 : Int) ≤ (N : Int)) = true := by simp; omega
        go_wp2
        go_ret
        exact ⟨true, rfl, rfl, fun e => by cases e⟩
      · have d1 : decide ((k : Int) < (n : Int)) = false := by simpa using hkn
        by_cases hN : N < 20000
        · have d3 : decide ((20000 : Int) ≤ (N : Int)) = false := by simp; omega
          have hfin : n + spUp l n < 20000 ∧ ∀ x ∈ l, x.2.length < 20000 := by
            have h4 := H3.out
            have hkn2 : k = n := by omega
            rw [hkn2] at h4
            refine ⟨by omega, fun x hx => ?_⟩
            obtain ⟨i, hi, rfl⟩ := pAt_of hx
            have := spUp_le (l := l) (i := i) (n := n) (by have := HLEN.out; omega)
            omega
          have HFIN := Lib.hid hfin
          clear hfin
          go_wp2
          go_ret
          exact ⟨false, rfl, rfl, fun _ => HFIN.out⟩
        · have d3 : decide ((20000 : Int) ≤ (N : Int)) = true := by simp; omega
          go_wp2
          go_ret
          exact ⟨true, rfl, rfl, fun e => by cases e⟩
end Go.Proofs.Ytmcoooepoikgjaa
