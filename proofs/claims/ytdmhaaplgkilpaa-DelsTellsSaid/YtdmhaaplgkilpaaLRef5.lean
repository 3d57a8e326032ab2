/- The contracts of the document's reader. -/
import Derived.Test.YtdmhaaplgkilpaaLRef2
import Derived.Test.YtdmhaaplgkilpaaLMath2
import Derived.Test.YtdmhaaplgkilpaaKInts
namespace Go.Proofs.Ytdmhaaplgkilpaa
open Go.RowKit Go.Maps Go.WideMaps

/-- A reader lies at b. -/
structure IsR3 (w : World) (b : Nat) (s : Rd) (A : Option Addr) (c : Nat) : Prop where
  blk : Blk w b 61 #[.slice A s.bs.length c, .int .i64 s.p, .int .i64 s.e]
  bytes : BytesIn w A s.bs.length s.bs
  cap : s.bs.length ≤ c
  apart : ∀ ad, A = some ad → 0 < s.bs.length → ad.block ≠ b
  ok : s.Ok
  fit : s.bs.length ≤ 1099511627776
theorem IsR3.same {w w' : World} {b : Nat} {s : Rd} {A : Option Addr} {c : Nat} (h : IsR3 w b s A c) {F : Nat → Prop} (hk : Kept F w w') (hb : ¬ F b) (ha : ∀ ad, A = some ad → 0 < s.bs.length → ¬ F ad.block) : IsR3 w' b s A c :=
  ⟨h.blk.kept hk hb, ⟨h.bytes.1, h.bytes.2.1.keep fun ad e h0 => hk.block _ (h.bytes.2.2 ad e h0) (ha ad e h0), fun ad e h0 => Nat.lt_of_lt_of_le (h.bytes.2.2 ad e h0) hk.size⟩, h.cap, h.apart, h.ok, h.fit⟩
theorem BytesIn.keep {w w' : World} {A : Option Addr} {n : Nat} {l : Nm} (h : BytesIn w A n l) {F : Nat → Prop} (hk : Kept F w w') (ha : ∀ ad, A = some ad → 0 < n → ¬ F ad.block) : BytesIn w' A n l :=
  ⟨h.1, h.2.1.keep fun ad e h0 => hk.block _ (h.2.2 ad e h0) (ha ad e h0), fun ad e h0 => Nat.lt_of_lt_of_le (h.2.2 ad e h0) hk.size⟩
theorem IsR3.drewN {w : World} {b : Nat} {s : Rd} {A : Option Addr} {c : Nat} (h : IsR3 w b s A c) (q : Nat) : IsR3 (w.drewN q) b s A c := ⟨h.blk, h.bytes.drewN q, h.cap, h.apart, h.ok, h.fit⟩
theorem kept_put (w : World) (b j : Nat) (u : Value) (q : Nat) : Kept (fun i => i = b) w ((w.drewN q).setCell ⟨b, j, none⟩ u) := ((Kept.refl (fun i => i = b) w).drewN q).setCell (.inl rfl) u
/-- One cell of the reader is written. -/
theorem IsR3.put {w : World} {b : Nat} {s s' : Rd} {A : Option Addr} {c : Nat} (h : IsR3 w b s A c) (hbs : s'.bs = s.bs) (hok : s'.Ok) {j : Nat} {u : Value} (hu : (#[.slice A s.bs.length c, .int .i64 s.p, .int .i64 s.e] : Array Value).setIfInBounds j u = #[.slice A s.bs.length c, .int .i64 s'.p, .int .i64 s'.e]) : IsR3 (w.setCell ⟨b, j, none⟩ u) b s' A c := by
  have hk : Kept (fun i => i = b) w (w.setCell ⟨b, j, none⟩ u) := (Kept.refl (fun i => i = b) w).setCell (.inl rfl) u
  refine ⟨?_, ?_, by rw [hbs]; exact h.cap, by rw [hbs]; exact h.apart, hok, by rw [hbs]; exact h.fit⟩
  · rw [hbs, ← hu]; exact h.blk.set_ j u
  · rw [hbs]; exact h.bytes.keep hk h.apart

set_option maxHeartbeats 4000000 in
set_option maxRecDepth 100000 in
theorem r3Int_any (w : World) (b : Nat) (s : Rd) (A : Option Addr) (c : Nat) (hR : IsR3 w b s A c) (most : Int) (hm1 : -9223372036854775808 ≤ most) (hm2 : most ≤ 9223372036854775807) :
    Calls Try.prog 28 #[at0 b, .int .i64 most] w fun e w' => e = .returned (.int .i64 (rInt s most).1) ∧ IsR3 w' b (rInt s most).2 A c ∧ Kept (fun i => i = b) w w' := by
  have HR := Lib.hid hR
  have c0 := hR.blk.cell 0
  have c1 := hR.blk.cell 1
  have c2 := hR.blk.cell 2
  have z1 := hR.blk.frozen 1
  have z2 := hR.blk.frozen 2
  simp at c0 c1 c2
  have hp := hR.ok.place
  have hfit := hR.fit
  clear hR
  unfold at0
  by_cases he : s.e = 0
  · have d0 : (s.e != 0) = false := by simpa using he
    have s1 : ∀ w, (Instr.slice 23 (.slice A s.bs.length c) (some (.int .i64 s.p)) none none).run Try.prog w = .ok (.slice (cutAddr A s.p c) (s.bs.length - s.p) (c - s.p)) w := fun w => slice_from w A s.bs.length c s.p hp
    have hsub := HR.out.bytes.sub HR.out.cap s.p s.bs.length hp (Nat.le_refl _)
    rw [List.take_of_length_le (Nat.le_refl _)] at hsub
    have HSUB := Lib.hid hsub
    clear hsub
    obtain ⟨v, j, e, hg⟩ : ∃ v j e, getL (s.bs.drop s.p) = (v, j, e) := ⟨_, _, _, rfl⟩
    have HGG := Lib.hid hg
    clear hg
    have hres : rInt s most = if e ≠ 0 then (0, { s with e := e }) else if most < 0 ∨ most < (v : Int) then (0, { s with e := 32 }) else ((v : Int), { s with p := s.p + j }) := by
      unfold rInt
      rw [if_neg (by simpa using he), HGG.out]
    obtain ⟨r, hr⟩ : ∃ r, r = rInt s most := ⟨_, rfl⟩
    rw [← hr]
    have HRES := Lib.hid (hr.trans hres)
    have HE := Lib.hid he
    clear hres he hr
    go_enter Try.func28, Try.ntmps28
    go_wp2
    go_quiet (first | (go_at_call 42; refine Calls.quiet_of_same (r3Get_is _ (cutAddr A s.p c) (s.bs.length - s.p) (c - s.p) (s.bs.drop s.p) (HSUB.out.drewN _) HGG.out)))
    by_cases he : e = 0
    · subst he
      by_cases hm : most < 0
      · have d1 : decide (most < 0) = true := by simpa using hm
        have hres := HRES.out
        rw [if_neg (by simp), if_pos (.inl hm)] at hres
        have HS := Lib.hid hres
        clear hres
        go_wp2
        go_ret
        rw [HS.out]
        exact ⟨rfl, (HR.out.drewN _).put (s' := { s with e := 32 }) rfl ⟨HR.out.ok.place⟩ rfl, kept_put _ _ _ _ _⟩
      have d1 : decide (most < 0) = false := by simpa using hm
      have hwm : IntKind.u64.wrap most = most := by rw [IntKind.wrap_u64]; omega
      by_cases hv : most < (v : Int)
      · have d2 : decide (most < (v : Int)) = true := by simpa using hv
        have hres := HRES.out
        rw [if_neg (by simp), if_pos (.inr hv)] at hres
        have HS := Lib.hid hres
        clear hres
        go_wp2
        go_ret
        rw [HS.out]
        exact ⟨rfl, (HR.out.drewN _).put (s' := { s with e := 32 }) rfl ⟨HR.out.ok.place⟩ rfl, kept_put _ _ _ _ _⟩
      · have d2 : decide (most < (v : Int)) = false := by simpa using hv
        have hres := HRES.out
        rw [if_neg (by simp), if_neg (by omega)] at hres
        have hgi := getL_inv HGG.out
        obtain ⟨q1, q2, q3, q4, q5⟩ := hgi
        rw [List.length_drop] at q3
        obtain ⟨P, hP⟩ : ∃ P, P = s.p + j := ⟨_, rfl⟩
        have hPz : IntKind.i64.wrap ((s.p : Int) + (j : Int)) = (P : Int) := by rw [IntWalk.i64_in _ (by omega)]; omega
        have hvz : IntKind.i64.wrap (v : Int) = (v : Int) := IntWalk.i64_in _ (by omega)
        have hok : Rd.Ok { s with p := P } := ⟨by simp only; omega⟩
        rw [← hP] at hres
        have HS := Lib.hid hres
        have HOK := Lib.hid hok
        clear hres q4 hP hok
        go_wp2
        go_ret
        rw [HS.out]
        exact ⟨rfl, (HR.out.drewN _).put (s' := { s with p := P }) rfl HOK.out rfl, kept_put _ _ _ _ _⟩
    · have d1 : (e == 0) = false := by simpa using he
      have d2 : (e != 0) = true := by simpa using he
      have hres := HRES.out
      rw [if_pos he] at hres
      have HS := Lib.hid hres
      clear hres he
      go_wp2
      go_ret
      rw [HS.out]
      exact ⟨rfl, (HR.out.drewN _).put (s' := { s with e := e }) rfl ⟨HR.out.ok.place⟩ rfl, kept_put _ _ _ _ _⟩
  · have d0 : (s.e != 0) = true := by simpa using he
    have hres : rInt s most = (0, s) := by
      unfold rInt
      rw [if_pos he]
    rw [hres]
    clear hres he
    go_enter Try.func28, Try.ntmps28
    go_wp2
    go_ret
    exact ⟨rfl, HR.out, Kept.refl _ _⟩

set_option maxHeartbeats 4000000 in
set_option maxRecDepth 100000 in
theorem r3Left_any (w : World) (b : Nat) (s : Rd) (A : Option Addr) (c : Nat) (hR : IsR3 w b s A c) :
    Calls Try.prog 29 #[at0 b] w fun e w' => e = .returned (.int .i64 (rLeft s)) ∧ ∃ q, w' = w.drewN q := by
  have c0 := hR.blk.cell 0
  have c1 := hR.blk.cell 1
  have c2 := hR.blk.cell 2
  simp at c0 c1 c2
  have hp := hR.ok.place
  have hfit := hR.fit
  clear hR
  unfold at0
  by_cases he : s.e = 0
  · have d0 : (s.e != 0) = false := by simpa using he
    obtain ⟨L, hL⟩ : ∃ L, L = rLeft s := ⟨_, rfl⟩
    have hL2 : L = s.bs.length - s.p := by rw [hL]; unfold rLeft; rw [if_neg (by simpa using he)]
    have hLz : IntKind.i64.wrap ((s.bs.length : Int) - (s.p : Int)) = (L : Int) := by rw [IntWalk.i64_in _ (by omega)]; omega
    rw [← hL]
    clear hL hL2 he
    go_enter Try.func29, Try.ntmps29
    go_wp2
    go_quiet (fail)
    go_wp2
    go_ret
    exact ⟨rfl, _, rfl⟩
  · have d0 : (s.e != 0) = true := by simpa using he
    have hres : rLeft s = 0 := by unfold rLeft; rw [if_pos he]
    rw [hres]
    clear hres he
    go_enter Try.func29, Try.ntmps29
    go_wp2
    go_ret
    exact ⟨rfl, 0, rfl⟩
end Go.Proofs.Ytdmhaaplgkilpaa
