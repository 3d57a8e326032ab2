/- The program's reader: what it is, read, and the small calls. -/
import Derived.Test.YtecpihghlelefaaLOver
import Derived.Test.YtecpihghlelefaaLProg2
import Derived.Test.YtecpihghlelefaaLRef7
import Derived.Test.YtecpihghlelefaaKClone
namespace Go.Proofs.Ytecpihghlelefaa
open Go.RowKit Go.Maps Go.WideMaps

def rRest (s : Rd) : Nm := if s.e ≠ 0 then [] else s.bs.drop s.p
theorem rRest_ok {s : Rd} (h : s.e = 0) : rRest s = s.bs.drop s.p := by unfold rRest; rw [if_neg (by simpa using h)]
theorem rRest_bad {s : Rd} (h : s.e ≠ 0) : rRest s = [] := by unfold rRest; rw [if_pos h]
theorem rRest_len {s : Rd} : (rRest s).length = rLeft s := by
  unfold rRest rLeft
  split
  · rfl
  · simp
/-- The program's reader at b, its bytes in blocks of g. -/
structure IsR (w : World) (b : Nat) (g : Nat → Prop) (s : Rd) : Prop where
  at_ : ∃ A c, Blk w b 82 #[.slice A (rRest s).length c, .int .i64 s.e] ∧ BytesIn w A (rRest s).length (rRest s) ∧ (rRest s).length ≤ c ∧ ∀ ad, A = some ad → 0 < (rRest s).length → g ad.block
  ne : ¬ g b
  lt : ∀ i, g i → i < w.heap.size
  ok : s.Ok
  fit : s.bs.length ≤ 1099511627776
theorem IsR.kept {w w' : World} {b : Nat} {g : Nat → Prop} {s : Rd} (h : IsR w b g s) {F : Nat → Prop} (hk : Kept F w w') (hb : ¬ F b) (hg : ∀ i, g i → ¬ F i) : IsR w' b g s := by
  obtain ⟨A, c, h1, h2, h3, h4⟩ := h.at_
  exact ⟨⟨A, c, h1.kept hk hb, h2.keep hk (fun ad e h0 => hg _ (h4 ad e h0)), h3, h4⟩, h.ne, fun i hi => Nat.lt_of_lt_of_le (h.lt i hi) hk.size, h.ok, h.fit⟩
theorem BytesIn.nil' (w : World) (A : Option Addr) : BytesIn w A 0 [] := ⟨by unfold maxLen; omega, ⟨rfl, (fun ad e j u hu => by simp at hu), fun _ => rfl⟩, fun ad e h => by omega⟩

set_option maxHeartbeats 2000000 in
set_option maxRecDepth 100000 in
theorem lErr_any (w : World) (b : Nat) (g : Nat → Prop) (s : Rd) (hR : IsR w b g s) :
    Calls Try.prog 29 #[at0 b] w fun e w' => e = .returned (.int .i64 s.e) ∧ w' = w := by
  obtain ⟨A, c, h1, h2, h3, h4⟩ := hR.at_
  have c1 := h1.cell 1
  simp at c1
  clear h1 h2 h3 h4 hR
  unfold at0
  go_enter Try.func29, Try.ntmps29
  go_wp2
  go_ret
  exact ⟨rfl, rfl⟩
set_option maxHeartbeats 2000000 in
set_option maxRecDepth 100000 in
theorem lLeft_any (w : World) (b : Nat) (g : Nat → Prop) (s : Rd) (hR : IsR w b g s) :
    Calls Try.prog 30 #[at0 b] w fun e w' => e = .returned (.int .i64 (rLeft s)) ∧ w' = w := by
  obtain ⟨A, c, h1, h2, h3, h4⟩ := hR.at_
  rw [rRest_len] at h1
  have c0 := h1.cell 0
  simp at c0
  clear h1 h2 h3 h4 hR
  unfold at0
  go_enter Try.func30, Try.ntmps30
  go_wp2
  go_ret
  exact ⟨rfl, rfl⟩

/-- What read leaves. -/
def ReadOut (w : World) (b : Nat) (g : Nat → Prop) (s : Rd) (FF : Nat → Prop) (Q : Nat → Int → World → Prop) (e : Ending) (w' : World) : Prop :=
  e = .returned (.tuple #[]) ∧ ((s.e ≠ 0 ∧ w' = w) ∨ (s.e = 0 ∧ ∃ k er w1, Q k er w1 ∧ Kept FF w w1 ∧ Kept (fun i => i = b) w1 w' ∧ IsR w' b g (if er ≠ 0 then { s with e := er } else { s with p := s.p + k })))
set_option maxHeartbeats 4000000 in
set_option maxRecDepth 100000 in
theorem lRead_any (f : Nat) (cap : Array Value) (eg : ∀ args w, (callFunc f args).run Try.prog w = .ok (.enter f args) w) (w : World) (b : Nat) (g : Nat → Prop) (s : Rd) (hR : IsR w b g s) (FF : Nat → Prop) (hb : ¬ FF b) (hg : ∀ i, g i → ¬ FF i) (Q : Nat → Int → World → Prop)
    (hcl : s.e = 0 → ∀ A c, BytesIn w A (rRest s).length (rRest s) → (rRest s).length ≤ c → Calls Try.prog f (#[.slice A (rRest s).length c] ++ cap) w fun e w1 => ∃ (k : Nat) (er : Int), e = .returned (.tuple #[.int .i64 k, .int .i64 er]) ∧ Q k er w1 ∧ Kept FF w w1 ∧ (er = 0 → k ≤ (rRest s).length)) :
    Calls Try.prog 52 #[at0 b, .func (.func f) #[] cap] w (ReadOut w b g s FF Q) := by
  have HR := Lib.hid hR
  obtain ⟨A, c, h1, h2, h3, h4⟩ := hR.at_
  have c0 := h1.cell 0
  have c1 := h1.cell 1
  simp at c0 c1
  have hfit := hR.fit
  clear hR
  unfold at0
  by_cases he : s.e = 0
  · have HC := Lib.hid (hcl he A c h2 h3)
    have d0 : (s.e != 0) = false := by simpa using he
    obtain ⟨n, hn⟩ : ∃ n, n = (rRest s).length := ⟨_, rfl⟩
    have hnl : n ≤ 1099511627776 := by
      rw [hn, rRest_ok he, List.length_drop]
      omega
    rw [← hn] at c0 h1 h3 h2 h4
    have H1 := Lib.hid h1
    have H2 := Lib.hid h2
    have H4 := Lib.hid h4
    have HE := Lib.hid he
    have HNN := Lib.hid hn
    have hc2 := HC.out
    rw [← hn] at hc2
    have HC2 := Lib.hid hc2
    clear HC h1 h2 h4 he hn hc2 hcl
    go_enter Try.func52, Try.ntmps52
    go_wp2_with fail
    refine HC2.out.mono ?_
    rintro e w1 ⟨k, er, rfl, hQ, hK, hkn⟩
    have HQ := Lib.hid hQ
    have HK := Lib.hid hK
    have b1 := H1.out.kept hK hb
    have k0 := b1.cell 0
    have k1 := b1.cell 1
    have z0 := b1.frozen 0
    have z1 := b1.frozen 1
    simp at k0 k1
    have B1 := Lib.hid b1
    clear hQ hK b1 c0 c1
    by_cases her : er = 0
    · subst her
      have hkn2 := hkn rfl
      clear hkn
      have hkn := hkn2
      clear hkn2
      have s1 : ∀ w, (Instr.slice 23 (.slice A n c) (some (.int .i64 k)) none none).run Try.prog w = .ok (.slice (cutAddr A k c) (n - k) (c - k)) w := fun w => slice_from w A n c k hkn
      go_wp2
      go_end0
      refine ⟨rfl, .inr ⟨HE.out, k, 0, w1, HQ.out, HK.out, (Kept.refl (fun i => i = b) w1).setCell (.inl rfl) _, ?_⟩⟩
      rw [if_neg (by simp)]
      have hr : rRest s = s.bs.drop s.p := rRest_ok HE.out
      have hr2 : rRest { s with p := s.p + k } = s.bs.drop (s.p + k) := rRest_ok (s := { s with p := s.p + k }) HE.out
      have hln : n = s.bs.length - s.p := by rw [HNN.out, hr, List.length_drop]
      have hl2 : (s.bs.drop (s.p + k)).length = n - k := by rw [List.length_drop, hln]; omega
      have hin := (H2.out.keep HK.out (fun ad e h0 => hg _ (H4.out ad e h0))).sub h3 k n hkn (Nat.le_refl _)
      have e3 : ((rRest s).take n).drop k = s.bs.drop (s.p + k) := by
        rw [HNN.out, List.take_length, hr, List.drop_drop]
      rw [e3] at hin
      have hp := HR.out.ok.place
      refine ⟨⟨cutAddr A k c, c - k, ?_, ?_, ?_, ?_⟩, HR.out.ne, fun i hi => by have h1 := HR.out.lt i hi; have h2 := HK.out.size; simp [World.setCell]; omega, ⟨by simp only; omega⟩, HR.out.fit⟩
      · rw [hr2, hl2]
        exact B1.out.set_ 0 _
      · rw [hr2, hl2]
        exact hin.keep ((Kept.refl (fun i => i = b) w1).setCell (.inl rfl) _) (fun ad e h0 => by
          have hbk : g ad.block := by
            unfold cutAddr at e
            split at e
            · exact H4.out ad e (by omega)
            · cases hA : A with
              | none => rw [hA] at e; cases e
              | some a =>
                rw [hA] at e
                simp only [Option.map_some, Option.some.injEq] at e
                subst e
                have hb : (a.add k).block = a.block := by unfold Addr.add; split <;> rfl
                rw [hb]
                exact H4.out a hA (by omega)
          exact fun e => HR.out.ne (e ▸ hbk))
      · rw [hr2, hl2]; omega
      · rw [hr2, hl2]
        intro ad e h0
        unfold cutAddr at e
        split at e
        · exact H4.out ad e (by omega)
        · cases hA : A with
          | none => rw [hA] at e; cases e
          | some a =>
            rw [hA] at e
            simp only [Option.map_some, Option.some.injEq] at e
            subst e
            have hb : (a.add k).block = a.block := by unfold Addr.add; split <;> rfl
            rw [hb]
            exact H4.out a hA (by omega)
    · have d1 : (er != 0) = true := by simpa using her
      have HER := Lib.hid her
      clear her
      go_wp2
      go_end0
      refine ⟨rfl, .inr ⟨HE.out, k, er, w1, HQ.out, HK.out, ((Kept.refl (fun i => i = b) w1).setCell (.inl rfl) _).setCell (.inl rfl) _, ?_⟩⟩
      rw [if_pos HER.out]
      have hr2 : rRest { s with e := er } = [] := rRest_bad (s := { s with e := er }) HER.out
      refine ⟨⟨none, 0, ?_, ?_, ?_, ?_⟩, HR.out.ne, fun i hi => by have h1 := HR.out.lt i hi; have h2 := HK.out.size; simp [World.setCell]; omega, ⟨HR.out.ok.place⟩, HR.out.fit⟩
      · rw [hr2]
        exact (B1.out.set_ 0 _).set_ 1 _
      · rw [hr2]; exact BytesIn.nil _
      · rw [hr2]; exact Nat.zero_le _
      · intro ad e; cases e
  · have d0 : (s.e != 0) = true := by simpa using he
    have HE := Lib.hid he
    clear he hcl h1 h2 h3 h4
    go_enter Try.func52, Try.ntmps52
    go_wp2
    go_end0
    exact ⟨rfl, .inl ⟨HE.out, rfl⟩⟩
end Go.Proofs.Ytecpihghlelefaa
