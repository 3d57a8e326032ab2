/- BpeStarts, walked. -/
import Derived.Test.YtimbimnbaoaboaaELaws2
namespace Go.Proofs.Ytimbimnbaoaboaa
open Go.RowKit Go.Maps Go.WideMaps
set_option linter.unusedSimpArgs false

theorem intsIn {H : Type} {enc : TypeId × Value → H} {w : World} {A : Option Addr} {n c : Nat} {x : DataW H × List MemPlace} {fuel : Nat} {base : Nat} {spare : Nat → Bool} {held : Bool} (h : DataW.trod enc Try.prog w base spare held fuel 24 [.slice A n c] = some x) (_ : Sized 24 x.1) : ∃ l, IntsIn w A n l :=
  ints_in Try.underlying24 Try.underlying3 (by kernel_rfl) h
theorem textUp_take (L : List Nm) (l : List Int) {k : Nat} : ∀ i, i ≤ k → textUp L (l.take k) i = textUp L l i
  | 0, _ => rfl
  | i + 1, h => by
    rw [textUp, textUp, textUp_take L l i (by omega)]
    congr 2
    rw [List.getD_eq_getElem?_getD, List.getD_eq_getElem?_getD, List.getElem?_take, if_pos (by omega)]
theorem walkE_take {L : List Nm} {l : List Int} (h : walkE L l = 0) {k : Nat} (hk : k ≤ l.length) : walkE L (l.take k) = 0 ∧ decR L (l.take k) = textUp L l k := by
  have e : decT L (l.take k) = textUp L l k := by
    unfold decT
    rw [List.length_take, Nat.min_eq_left hk]
    exact textUp_take L l k (Nat.le_refl _)
  have h2 := decT_le h
  have h3 := textUp_mono L l hk
  unfold decT at h2
  have h1 : ∀ i ∈ l, tokIn L i := by
    unfold walkE at h
    split at h
    · assumption
    · omega
  have h0 : walkE L (l.take k) = 0 := by
    unfold walkE
    rw [if_pos fun i hi => h1 i (List.mem_of_mem_take hi), if_neg (by rw [e]; omega)]
  refine ⟨h0, ?_⟩
  unfold decR
  rw [if_pos h0, e]
theorem IntsIn.upto {w : World} {A : Option Addr} {n : Nat} {l : List Int} (h : IntsIn w A n l) (q : Nat) (hq : q ≤ n) : IntsIn w A q (l.take q) := by
  obtain ⟨h1, h2, h3, h4⟩ := h
  refine ⟨by omega, ⟨?_, ?_, ?_⟩, fun x hx => h3 x (List.mem_of_mem_take hx), fun ad e hn => h4 ad e (by omega)⟩
  · have := h2.len
    simp at this ⊢
    omega
  · intro ad e j u hu
    rw [List.map_take, List.getElem?_take] at hu
    split at hu
    · exact h2.cells ad e j u hu
    · cases hu
  · intro e
    have := h2.nil e
    omega
set_option maxHeartbeats 8000000 in
set_option maxRecDepth 100000 in
theorem bpeStarts_any (w : World) (A : Option Addr) (n c : Nat) (ps : List (Int × Int)) (hp : PairsIn w A n ps) (hc : n ≤ c) (B : Option Addr) (p cp : Nat) (l : List Int) (hl : IntsIn w B p l) (hpc : p ≤ cp) :
    Calls Try.prog 8 #[.slice A n c, .slice B p cp] w fun e w' => e = .returned (.bool true) ∧ Below w.heap.size w w' := by
  have HP := Lib.hid hp
  have HL := Lib.hid hl
  have HC := Lib.hid hc
  have hn63 : n ≤ 9223372036854775807 := hp.fit
  have hp63 : p ≤ 9223372036854775807 := hl.1
  have HLL := Lib.hid hl.len
  obtain ⟨V, hV⟩ : ∃ V, ofV ps = V := ⟨_, rfl⟩
  have HV := Lib.hid hV
  have HO := Lib.hid (ofV_ok ps)
  rw [hV] at HO
  clear hp hl hc hV
  go_enter Try.func8, Try.ntmps8
  go_wp2_with fail
  refine (bpeHead_any w).mono ?_
  rintro e w1 ⟨rfl, hb⟩
  have HB1 := Lib.hid hb
  clear hb
  by_cases hbig : 100 < n ∨ 200 < p
  · rcases Nat.lt_or_ge 100 n with h1 | h1
    · have d1 : (100 : Int) < (n : Int) := by omega
      go_wp2
      go_ret
      exact ⟨rfl, HB1.out⟩
    · have d1 : ¬ (100 : Int) < (n : Int) := by omega
      have d2 : (200 : Int) < (p : Int) := by omega
      go_wp2
      go_ret
      exact ⟨rfl, HB1.out⟩
  have d1 : ¬ (100 : Int) < (n : Int) := by omega
  have d2 : ¬ (200 : Int) < (p : Int) := by omega
  have hn100 : n ≤ 100 := by omega
  have hp200 : p ≤ 200 := by omega
  clear hbig
  go_wp2_with fail
  refine (of_is w1 A n c ps (HP.out.below HB1.out) (by omega) HC.out HV.out).mono ?_
  rintro e w2 ⟨AT, BM, n', m', ca, cb, rfl, hsee, hb⟩
  have HB2 := Lib.hid (below_then HB1.out hb HB1.out.size)
  have HSEE := Lib.hid hsee
  clear hb hsee
  go_wp2_with fail
  refine (new_is w2 AT BM n' m' ca cb V HSEE.out HO.out).mono ?_
  rintro e w3 ⟨b, rfl, hb, hC⟩
  have HB3 := Lib.hid (below_then HB2.out hb HB2.out.size)
  have HC3 := Lib.hid hC
  clear hb hC
  obtain ⟨r, hr⟩ : ∃ r, walkE V.tok l = r := ⟨_, rfl⟩
  obtain ⟨ls, hls⟩ : ∃ r, startsR V.tok l = r := ⟨_, rfl⟩
  obtain ⟨ks, hks⟩ : ∃ r, ls.length = r := ⟨_, rfl⟩
  have HR := Lib.hid hr
  have HLS := Lib.hid hls
  have HKS := Lib.hid hks
  clear hr hls hks
  go_wp2_with fail
  refine (starts_is w3 b V HC3.out HO.out B p cp l (HL.out.below HB3.out) (by omega) HLS.out HKS.out HR.out).mono ?_
  rintro e w4 ⟨A4, c4, rfl, hi4, _, hb⟩
  have HB4 := Lib.hid (below_then HB3.out hb HB3.out.size)
  have HC4 := Lib.hid (HC3.out.below hb)
  have HI4 := Lib.hid hi4
  clear hb hi4
  go_wp2_with fail
  refine (decode_is w4 b V HC4.out HO.out B p cp l (HL.out.below HB4.out) rfl rfl HR.out).mono ?_
  rintro e w5 ⟨A5, c5, rfl, _, _, hb⟩
  have HB5 := Lib.hid (below_then HB4.out hb HB4.out.size)
  have HC5 := Lib.hid (HC4.out.below hb)
  have HI5 := Lib.hid (HI4.out.below hb)
  clear hb
  have e0 : (r != r) = false := by simp
  have e0' : (r == r) = true := by simp
  by_cases hr0 : r = 0
  · subst hr0
    have hks : ks = p := by
      rw [← HKS.out, ← HLS.out]
      unfold startsR
      rw [if_pos HR.out, startsUp_len, HLL.out]
    subst hks
    have e1 : ((ks : Int) != (ks : Int)) = false := by simp
    go_wp2_with fail
    clear e0 e0' e1
    go_loopw [11] (fun i wr => ∃ i0 : Nat, i0 ≤ ks ∧ i = .int .i64 (i0 : Nat) ∧ Below w5.heap.size w5 wr) (fun i _ => ks - (intOf i).toNat)
    case atStart => exact ⟨0, by omega, rfl, Below.refl _ _⟩
    case round =>
      obtain ⟨i, hik, rfl, hbr⟩ := hrel
      have HBR := Lib.hid (below_then HB5.out hbr HB5.out.size)
      have HCR := Lib.hid (HC5.out.below hbr)
      have HIR := Lib.hid (HI5.out.below hbr)
      have HBB := Lib.hid hbr
      clear hbr
      rcases Nat.lt_or_ge i ks with hlt | hge
      · have c1 : (i : Int) < (ks : Int) := by omega
        have c2 : (0 : Int) ≤ (i : Int) := by omega
        have c3 : (i : Int) ≤ (cp : Int) := by omega
        have c4 : i ≤ cp := by omega
        go_wp2_with fail
        obtain ⟨w0', w1'⟩ := walkE_take HR.out (k := i) (by rw [HLL.out]; exact hik)
        obtain ⟨kx, hkx⟩ : ∃ k, (textUp V.tok l i).length = k := ⟨_, rfl⟩
        refine (decode_is _ b V HCR.out HO.out B i cp (l.take i) ((HL.out.below HBR.out).upto i hik) w1' hkx w0').mono ?_
        rintro e w6 ⟨A6, c6, rfl, _, _, hb⟩
        obtain ⟨ad, x, rfl, hx, lx, -, -⟩ := (HIR.out.below hb).at i hlt
        have hxk : x = (kx : Int) := by
          rw [← HLS.out] at hx
          unfold startsR at hx
          rw [if_pos HR.out] at hx
          unfold startsUp at hx
          rw [List.getElem?_map, List.getElem?_range (by rw [HLL.out]; exact hlt)] at hx
          simp only [Option.map_some, Option.some.injEq] at hx
          rw [← hx, hkx]
        subst hxk
        have HB6 := Lib.hid (below_then HBB.out hb HBB.out.size)
        have e2 : ((kx : Int) != (kx : Int)) = false := by simp
        clear hb hx w0' w1' hkx
        go_wp2_with fail
        go_roundw
        case rel => exact ⟨i + 1, by omega, by go_num, HB6.out⟩
        case measure => simp [intOf]; omega
      · have c1 : ¬ (i : Int) < (ks : Int) := by omega
        go_wp2_with fail
        go_ret
        exact ⟨rfl, HBR.out⟩
  · have hks : ks = 0 := by
      rw [← HKS.out, ← HLS.out]
      unfold startsR
      rw [if_neg (by rw [HR.out]; exact hr0)]
      rfl
    subst hks
    have e1 : (r != 0) = true := by simpa using hr0
    clear hr0
    go_wp2_with fail
    go_ret
    exact ⟨rfl, HB5.out⟩
end Go.Proofs.Ytimbimnbaoaboaa
