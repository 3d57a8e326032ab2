/- The contract of the document's Get. The contracts of the document's reader. The contracts of the program's add and Put. The contracts of the document's Put and Get. The contracts of the document's More and Sum: a fold of steps. The contracts of the document's frame: Put, Get. The contract of the document's frame: Get. The contracts of the program's Get and over. The contract of crc's table: entry i is what eight steps of a bit make of i. The contracts of crc's More and Sum, and of the document's: a fold of steps. The contracts of the program's sumBytes and Put. The contract of the program's Get. -/
import Derived.Test.YtmhiekbpmoikfaaGreatDoorZp1
import Derived.Laws.BitsAllLaws
import Derived.Deep.QuietTactic
import Derived.BigQuiet
import Derived.Laws.Rows
import Derived.Laws.Tables
import Derived.Laws.ResultCell
import Derived.Deep.WholeRow
import Derived.Deep.Quiet
import Derived.Deep.RegionHeld3
namespace Go.Proofs.YtmhiekbpmoikfaaGreatDoor
open Go.RowKit Go.Maps Go.WideMaps

set_option maxHeartbeats 4000000 in
set_option maxRecDepth 100000 in
theorem r3Get_any (w : World) (A : Option Addr) (n c : Nat) (l : Nm) (hl : BytesIn w A n l) :
    Calls Tryz.prog 121 #[.slice A n c] w fun e w' => e = .returned (gotV (getL l)) ∧ w' = w := by
  have HL := Lib.hid hl
  have hln : l.length = n := by have := hl.2.1.len; simpa using this
  have HLN := Lib.hid hln
  clear hl hln
  have hn63 : n ≤ 9223372036854775807 := HL.out.1
  go_enter Tryz.func121, Tryz.ntmps121
  go_wp2
  go_loop [5, 6] (fun a i => ∃ acc k : Nat, k ≤ 9 ∧ a = .int .u64 acc ∧ i = .int .i64 k ∧ acc < 2 ^ (7 * k) ∧ k ≤ n ∧ getAux k acc (l.drop k) = getL l) (fun _ i => 10 - (intOf i).toNat)
  case atStart => exact ⟨0, 0, by omega, rfl, rfl, by omega, by omega, rfl⟩
  case round =>
    obtain ⟨acc, k, hk, rfl, rfl, hacc, hkn, hg⟩ := hrel
    have HG := Lib.hid hg
    have HACC := Lib.hid hacc
    clear hg hacc
    have hk10 : (k : Int) < 10 := by omega
    rcases Nat.lt_or_ge k n with hlt | hge
    · have hlt' : ¬ (k : Int) ≥ (n : Int) := by omega
      obtain ⟨ad, x, rfl, hx, hcx⟩ := HL.out.at k hlt
      have hx8 := x.toNat_lt
      have HX := Lib.hid hx
      clear hx
      have a1 := and127_8 x.toNat (by omega)
      have hdrop : l.drop k = x :: l.drop (k + 1) := by
        obtain ⟨h1, h2⟩ := List.getElem?_eq_some_iff.1 HX.out
        rw [← h2, List.getElem_cons_drop]
      have HD := Lib.hid hdrop
      clear hdrop
      by_cases hbad : (k = 9 ∧ 1 < x.toNat) ∨ (x.toNat = 0 ∧ 0 < k)
      · have hend : getL l = (0, 0, 32) := by
          rw [← HG.out, HD.out]
          simp only [getAux]
          rw [if_pos hbad]
        rw [hend]
        rcases hbad with ⟨h9, h1⟩ | ⟨h1, h2⟩
        · have h9b : ((k : Int) == 9) = true := by rw [h9]; rfl
          have h1z : (1 : Int) < (x.toNat : Int) := by omega
          clear h9
          go_wp2
          go_ret3
          exact ⟨rfl, rfl⟩
        · have h1b : ((x.toNat : Int) == 0) = true := by rw [h1]; rfl
          have h1z : ¬ (1 : Int) < (x.toNat : Int) := by omega
          have h2z : (0 : Int) < (k : Int) := by omega
          clear h1
          by_cases h9 : k = 9
          · have h9b : ((k : Int) == 9) = true := by rw [h9]; rfl
            clear h9
            go_wp2
            go_ret3
            exact ⟨rfl, rfl⟩
          · have h9b : ((k : Int) == 9) = false := by simp; omega
            go_wp2
            go_ret3
            exact ⟨rfl, rfl⟩
      · have h91 : k = 9 → x.toNat ≤ 1 := fun e => by
          rcases Nat.lt_or_ge 1 x.toNat with h | h
          · exact absurd (Or.inl ⟨e, h⟩) hbad
          · exact h
        have h0k : 0 < k → 0 < x.toNat := fun e => by
          rcases Nat.eq_zero_or_pos x.toNat with h | h
          · exact absurd (Or.inr ⟨h, e⟩) hbad
          · exact h
        have hsh := shl_or acc k x.toNat HACC.out hk (fun e => by have := h91 e; omega)
        obtain ⟨acc', hacc'⟩ : ∃ a, a = acc + x.toNat % 128 * 2 ^ (7 * k) := ⟨_, rfl⟩
        rw [← hacc'] at hsh
        have HA := Lib.hid hacc'
        have HBAD := Lib.hid hbad
        have H91 := Lib.hid h91
        have H0K := Lib.hid h0k
        clear hacc' hbad h91 h0k
        have hres : x.toNat < 128 → getL l = (acc', k + 1, 0) := fun hs => by
          rw [← HG.out, HD.out]
          simp only [getAux]
          rw [if_neg HBAD.out, if_pos hs, HA.out]
        have hnext : 128 ≤ x.toNat → acc' < 2 ^ (7 * (k + 1)) ∧ getAux (k + 1) acc' (l.drop (k + 1)) = getL l ∧ k + 1 ≤ 9 := fun hs => by
          refine ⟨?_, ?_, ?_⟩
          · rw [HA.out, pow7]
            have h1 := HACC.out
            have h2 : x.toNat % 128 + 1 ≤ 128 := by omega
            have h3 := Nat.mul_le_mul_right (2 ^ (7 * k)) h2
            rw [Nat.add_mul] at h3
            omega
          · rw [← HG.out, HD.out]
            simp only [getAux]
            rw [if_neg HBAD.out, if_neg (by omega), HA.out]
          · rcases Nat.lt_or_ge k 9 with h | h
            · exact h
            · have := H91.out (by omega)
              omega
        have HRES := Lib.hid hres
        have HNX := Lib.hid hnext
        clear hres hnext
        have fin1 : ∀ hs : x.toNat < 128, Ending.returned (.tuple #[.int .u64 acc', .int .i64 ((k : Int) + 1), .int .i64 0]) = .returned (gotV (getL l)) := fun hs => by
          rw [HRES.out hs]
          rfl
        have HF := Lib.hid fin1
        clear fin1
        by_cases h9 : k = 9
        · have h9b : ((k : Int) == 9) = true := by rw [h9]; rfl
          have h1z : ¬ (1 : Int) < (x.toNat : Int) := by have := H91.out h9; omega
          have hc0 : ((x.toNat : Int) == 0) = false := by have := H0K.out (by omega); simp; omega
          have hs : x.toNat < 128 := by have := H91.out h9; omega
          have hsz : (x.toNat : Int) < 128 := by omega
          clear h9
          go_wp2
          go_ret3
          exact ⟨HF.out hs, rfl⟩
        · have h9b : ((k : Int) == 9) = false := by simp; omega
          by_cases hc0 : x.toNat = 0
          · have hk0 : k = 0 := by
              rcases Nat.eq_zero_or_pos k with h | h
              · exact h
              · have := H0K.out h; omega
            have hc0b : ((x.toNat : Int) == 0) = true := by rw [hc0]; rfl
            have hk0z : ¬ (0 : Int) < (k : Int) := by omega
            have hs : x.toNat < 128 := by omega
            have hsz : (x.toNat : Int) < 128 := by omega
            clear hc0 hk0
            go_wp2
            go_ret3
            exact ⟨HF.out hs, rfl⟩
          · have hc0b : ((x.toNat : Int) == 0) = false := by simp; omega
            rcases Nat.lt_or_ge x.toNat 128 with hs | hs
            · have hsz : (x.toNat : Int) < 128 := by omega
              go_wp2
              go_ret3
              exact ⟨HF.out hs, rfl⟩
            · have hsz : ¬ (x.toNat : Int) < 128 := by omega
              obtain ⟨n1, n2, n3⟩ := HNX.out hs
              have N1 := Lib.hid n1
              have N2 := Lib.hid n2
              clear n1 n2
              go_wp2
              exact ⟨⟨acc', k + 1, n3, rfl, by go_num, N1.out, by omega, N2.out⟩, by simp [intOf]; omega⟩
    · have hlt' : (k : Int) ≥ (n : Int) := by omega
      have hend : getL l = (0, 0, 31) := by rw [← HG.out, List.drop_of_length_le (by rw [HLN.out]; exact hge)]; rfl
      rw [hend]
      go_wp2
      go_ret3
      exact ⟨rfl, rfl⟩
theorem r3Get_is (w : World) (A : Option Addr) (n c : Nat) (l : Nm) (hl : BytesIn w A n l) {v j : Nat} {e : Int} (hg : getL l = (v, j, e)) :
    Calls Tryz.prog 121 #[.slice A n c] w fun e2 w' => e2 = .returned (.tuple #[.int .u64 v, .int .i64 j, .int .i64 e]) ∧ w' = w := by
  have h := r3Get_any w A n c l hl
  rw [hg] at h
  exact h
end Go.Proofs.YtmhiekbpmoikfaaGreatDoor
namespace Go.Proofs.YtmhiekbpmoikfaaGreatDoor
open Go.RowKit Go.Maps Go.WideMaps

/-- A reader lies at b. -/
structure IsR3 (w : World) (b : Nat) (s : Rd) (A : Option Addr) (c : Nat) : Prop where
  blk : Blk w b 105 #[.slice A s.bs.length c, .int .i64 s.p, .int .i64 s.e]
  bytes : BytesIn w A s.bs.length s.bs
  cap : s.bs.length ≤ c
  apart : ∀ ad, A = some ad → 0 < s.bs.length → ad.block ≠ b
  ok : s.Ok
  fit : s.bs.length ≤ 1099511627776
theorem IsR3.same {w w' : World} {b : Nat} {s : Rd} {A : Option Addr} {c : Nat} (h : IsR3 w b s A c) {F : Nat → Prop} (hk : Kept F w w') (hb : ¬ F b) (ha : ∀ ad, A = some ad → 0 < s.bs.length → ¬ F ad.block) : IsR3 w' b s A c :=
  ⟨h.blk.kept hk hb, ⟨h.bytes.1, h.bytes.2.1.keep fun ad e h0 => hk.block _ (h.bytes.2.2 ad e h0) (ha ad e h0), fun ad e h0 => Nat.lt_of_lt_of_le (h.bytes.2.2 ad e h0) hk.size⟩, h.cap, h.apart, h.ok, h.fit⟩
theorem BytesIn.keep {w w' : World} {A : Option Addr} {n : Nat} {l : Nm} (h : BytesIn w A n l) {F : Nat → Prop} (hk : Kept F w w') (ha : ∀ ad, A = some ad → 0 < n → ¬ F ad.block) : BytesIn w' A n l :=
  ⟨h.1, h.2.1.keep fun ad e h0 => hk.block _ (h.2.2 ad e h0) (ha ad e h0), fun ad e h0 => Nat.lt_of_lt_of_le (h.2.2 ad e h0) hk.size⟩
theorem IsR3.drewN {w : World} {b : Nat} {s : Rd} {A : Option Addr} {c : Nat} (h : IsR3 w b s A c) (q : Nat) : IsR3 (w.drewN q) b s A c := ⟨h.blk, h.bytes.drewN q, h.cap, h.apart, h.ok, h.fit⟩
theorem kept_put (w : World) (b j : Nat) (u : Value) (q : Nat) : Kept (fun i => i = b) w ((w.drewN q).setCell ⟨b, j, none⟩ u) := ((Kept.refl (fun i => i = b) w).drewN q).setCell (.inl rfl) u
/-- One cell of the reader is written. -/
theorem IsR3.put {w : World} {b : Nat} {s s' : Rd} {A : Option Addr} {c : Nat} (h : IsR3 w b s A c) (hbs : s'.bs = s.bs) (hok : s'.Ok) {j : Nat} {u : Value} (hu : (#[.slice A s.bs.length c, .int .i64 s.p, .int .i64 s.e] : Array Value).setIfInBounds j u = #[.slice A s.bs.length c, .int .i64 s'.p, .int .i64 s'.e]) : IsR3 (w.setCell ⟨b, j, none⟩ u) b s' A c := by
  have hk : Kept (fun i => i = b) w (w.setCell ⟨b, j, none⟩ u) := (Kept.refl (fun i => i = b) w).setCell (.inl rfl) u
  refine ⟨?_, ?_, by rw [hbs]; exact h.cap, by rw [hbs]; exact h.apart, hok, by rw [hbs]; exact h.fit⟩
  · rw [hbs, ← hu]; exact h.blk.set_ j u
  · rw [hbs]; exact h.bytes.keep hk h.apart

set_option maxHeartbeats 4000000 in
set_option maxRecDepth 100000 in
theorem r3Int_any (w : World) (b : Nat) (s : Rd) (A : Option Addr) (c : Nat) (hR : IsR3 w b s A c) (most : Int) (hm1 : -9223372036854775808 ≤ most) (hm2 : most ≤ 9223372036854775807) :
    Calls Tryz.prog 62 #[at0 b, .int .i64 most] w fun e w' => e = .returned (.int .i64 (rInt s most).1) ∧ IsR3 w' b (rInt s most).2 A c ∧ Kept (fun i => i = b) w w' := by
  have HR := Lib.hid hR
  have c0 := hR.blk.cell 0
  have c1 := hR.blk.cell 1
  have c2 := hR.blk.cell 2
  have z1 := hR.blk.frozen 1
  have z2 := hR.blk.frozen 2
  simp at c0 c1 c2
  have hp := hR.ok.place
  have hfit := hR.fit
  clear hR
  unfold at0
  by_cases he : s.e = 0
  · have d0 : (s.e != 0) = false := by simpa using he
    have s1 : ∀ w, (Instr.slice 25 (.slice A s.bs.length c) (some (.int .i64 s.p)) none none).run Tryz.prog w = .ok (.slice (cutAddr A s.p c) (s.bs.length - s.p) (c - s.p)) w := fun w => slice_from w A s.bs.length c s.p hp
    have hsub := HR.out.bytes.sub HR.out.cap s.p s.bs.length hp (Nat.le_refl _)
    rw [List.take_of_length_le (Nat.le_refl _)] at hsub
    have HSUB := Lib.hid hsub
    clear hsub
    obtain ⟨v, j, e, hg⟩ : ∃ v j e, getL (s.bs.drop s.p) = (v, j, e) := ⟨_, _, _, rfl⟩
    have HGG := Lib.hid hg
    clear hg
    have hres : rInt s most = if e ≠ 0 then (0, { s with e := e }) else if most < 0 ∨ most < (v : Int) then (0, { s with e := 32 }) else ((v : Int), { s with p := s.p + j }) := by
      unfold rInt
      rw [if_neg (by simpa using he), HGG.out]
    obtain ⟨r, hr⟩ : ∃ r, r = rInt s most := ⟨_, rfl⟩
    rw [← hr]
    have HRES := Lib.hid (hr.trans hres)
    have HE := Lib.hid he
    clear hres he hr
    go_enter Tryz.func62, Tryz.ntmps62
    go_wp2
    go_quiet (first | (go_at_call 121; refine Calls.quiet_of_same (r3Get_is _ (cutAddr A s.p c) (s.bs.length - s.p) (c - s.p) (s.bs.drop s.p) (HSUB.out.drewN _) HGG.out)))
    by_cases he : e = 0
    · subst he
      by_cases hm : most < 0
      · have d1 : decide (most < 0) = true := by simpa using hm
        have hres := HRES.out
        rw [if_neg (by simp), if_pos (.inl hm)] at hres
        have HS := Lib.hid hres
        clear hres
        go_wp2
        go_ret
        rw [HS.out]
        exact ⟨rfl, (HR.out.drewN _).put (s' := { s with e := 32 }) rfl ⟨HR.out.ok.place⟩ rfl, kept_put _ _ _ _ _⟩
      have d1 : decide (most < 0) = false := by simpa using hm
      have hwm : IntKind.u64.wrap most = most := by rw [IntKind.wrap_u64]; omega
      by_cases hv : most < (v : Int)
      · have d2 : decide (most < (v : Int)) = true := by simpa using hv
        have hres := HRES.out
        rw [if_neg (by simp), if_pos (.inr hv)] at hres
        have HS := Lib.hid hres
        clear hres
        go_wp2
        go_ret
        rw [HS.out]
        exact ⟨rfl, (HR.out.drewN _).put (s' := { s with e := 32 }) rfl ⟨HR.out.ok.place⟩ rfl, kept_put _ _ _ _ _⟩
      · have d2 : decide (most < (v : Int)) = false := by simpa using hv
        have hres := HRES.out
        rw [if_neg (by simp), if_neg (by omega)] at hres
        have hgi := getL_inv HGG.out
        obtain ⟨q1, q2, q3, q4, q5⟩ := hgi
        rw [List.length_drop] at q3
        obtain ⟨P, hP⟩ : ∃ P, P = s.p + j := ⟨_, rfl⟩
        have hPz : IntKind.i64.wrap ((s.p : Int) + (j : Int)) = (P : Int) := by rw [IntWalk.i64_in _ (by omega)]; omega
        have hvz : IntKind.i64.wrap (v : Int) = (v : Int) := IntWalk.i64_in _ (by omega)
        have hok : Rd.Ok { s with p := P } := ⟨by simp only; omega⟩
        rw [← hP] at hres
        have HS := Lib.hid hres
        have HOK := Lib.hid hok
        clear hres q4 hP hok
        go_wp2
        go_ret
        rw [HS.out]
        exact ⟨rfl, (HR.out.drewN _).put (s' := { s with p := P }) rfl HOK.out rfl, kept_put _ _ _ _ _⟩
    · have d1 : (e == 0) = false := by simpa using he
      have d2 : (e != 0) = true := by simpa using he
      have hres := HRES.out
      rw [if_pos he] at hres
      have HS := Lib.hid hres
      clear hres he
      go_wp2
      go_ret
      rw [HS.out]
      exact ⟨rfl, (HR.out.drewN _).put (s' := { s with e := e }) rfl ⟨HR.out.ok.place⟩ rfl, kept_put _ _ _ _ _⟩
  · have d0 : (s.e != 0) = true := by simpa using he
    have hres : rInt s most = (0, s) := by
      unfold rInt
      rw [if_pos he]
    rw [hres]
    clear hres he
    go_enter Tryz.func62, Tryz.ntmps62
    go_wp2
    go_ret
    exact ⟨rfl, HR.out, Kept.refl _ _⟩

set_option maxHeartbeats 4000000 in
set_option maxRecDepth 100000 in
theorem r3Left_any (w : World) (b : Nat) (s : Rd) (A : Option Addr) (c : Nat) (hR : IsR3 w b s A c) :
    Calls Tryz.prog 63 #[at0 b] w fun e w' => e = .returned (.int .i64 (rLeft s)) ∧ ∃ q, w' = w.drewN q := by
  have c0 := hR.blk.cell 0
  have c1 := hR.blk.cell 1
  have c2 := hR.blk.cell 2
  simp at c0 c1 c2
  have hp := hR.ok.place
  have hfit := hR.fit
  clear hR
  unfold at0
  by_cases he : s.e = 0
  · have d0 : (s.e != 0) = false := by simpa using he
    obtain ⟨L, hL⟩ : ∃ L, L = rLeft s := ⟨_, rfl⟩
    have hL2 : L = s.bs.length - s.p := by rw [hL]; unfold rLeft; rw [if_neg (by simpa using he)]
    have hLz : IntKind.i64.wrap ((s.bs.length : Int) - (s.p : Int)) = (L : Int) := by rw [IntWalk.i64_in _ (by omega)]; omega
    rw [← hL]
    clear hL hL2 he
    go_enter Tryz.func63, Tryz.ntmps63
    go_wp2
    go_quiet (fail)
    go_wp2
    go_ret
    exact ⟨rfl, _, rfl⟩
  · have d0 : (s.e != 0) = true := by simpa using he
    have hres : rLeft s = 0 := by unfold rLeft; rw [if_pos he]
    rw [hres]
    clear hres he
    go_enter Tryz.func63, Tryz.ntmps63
    go_wp2
    go_ret
    exact ⟨rfl, 0, rfl⟩
end Go.Proofs.YtmhiekbpmoikfaaGreatDoor
namespace Go.Proofs.YtmhiekbpmoikfaaGreatDoor
open Go.RowKit Go.Maps Go.WideMaps

theorem or128_8 (m : Nat) (h : m < 256) : bits .or .u8 (m : Int) 128 = ((m % 128 + 128 : Nat) : Int) := by
  have h1 := u8_or_nat m 128 h (by decide)
  have h2 : ∀ m : Fin 256, m.val ||| 128 = m.val % 128 + 128 := by decide +kernel
  rw [h2 ⟨m, h⟩] at h1
  exact h1

set_option maxHeartbeats 4000000 in
set_option maxRecDepth 100000 in
theorem lAdd_any (w : World) (base : Nat) (hbase : base ≤ w.heap.size) (v0 : Value) (ys : Nm) (hy : ys.length ≤ 70368744177664) (h0 : w.ownsRow base 5 1 v0 ys.length (ys.map byteV)) (n : Nat) (hn : n < 18446744073709551616) :
    Calls Tryz.prog 114 #[v0, .int .u64 n] w fun e w' => ∃ v, e = .returned v ∧ w'.ownsRow base 5 1 v (ys ++ putL n).length ((ys ++ putL n).map byteV) ∧ Below base w w' := by
  obtain ⟨i0, hi, hz0, hz1, hz2⟩ := info_parts byteInfo
  have H0 := Lib.hid h0
  obtain ⟨Z, hZ⟩ : ∃ Z, Z = ys ++ putL n := ⟨_, rfl⟩
  rw [← hZ]
  have HZ := Lib.hid hZ
  clear h0 hZ
  go_enter Tryz.func114, Tryz.ntmps114
  go_wp2
  go_loopw [0, 1] (fun v s wr => ∃ (m : Nat) (xs : Nm), s = .int .u64 m ∧ m ≤ n ∧ xs ++ putL m = Z ∧ Below base w wr ∧ wr.ownsRow base 5 1 v xs.length (xs.map byteV)) (fun _ s _ => (intOf s).toNat)
  case atStart => exact ⟨n, ys, rfl, Nat.le_refl _, HZ.out.symm, Below.refl _ _, H0.out⟩
  case round =>
    obtain ⟨m, xs, rfl, hm, hx, hB, hO⟩ := hrel
    have HX := Lib.hid hx
    have HB := Lib.hid hB
    have HO := Lib.hid hO
    have hsb : base ≤ wr.heap.size := Nat.le_trans hbase hB.size
    clear hx hB hO
    have hlen : xs.length ≤ ys.length + 10 := by
      have h1 := putL_len n (by omega)
      have h2 := congrArg List.length (HX.out.trans HZ.out)
      simp only [List.length_append] at h2
      omega
    obtain ⟨Av, cv, hv⟩ := own_slice HO.out
    subst hv
    rcases Nat.lt_or_ge m 128 with hs | hb
    · have hsz : ¬ (m : Int) ≥ 128 := by omega
      obtain ⟨x, rfl⟩ : ∃ x : UInt8, m = x.toNat := ⟨UInt8.ofNat m, (ofNat_toNat (by omega)).symm⟩
      have hmz : (x.toNat : Int) % 256 = (x.toNat : Int) := by omega
      have hfin : Z = xs ++ [x] := by rw [← HX.out, putL_small hs]; simp
      have HF := Lib.hid hfin
      clear hfin
      go_wp2_with (at_builtin; refine wpList_append_src _ rfl (.tmp 15) (.tmp 18) 25 rfl base 5 i0 (.int .u8 0) 1 Tryz.underlying25 hi hz0 hz1 hz2 rfl _ xs.length _ rfl (own_alloc HO.out _) _ 1 1 _ rfl (one_src wr x) (u8_one [x]) (by unfold maxLen; omega) (by omega) (by simp; omega) ?_; intro v w2 hown hgrow _; have HO2 := Lib.hid hown; have HB2 := Lib.hid ((HB.out.alloc hsb _).grown hgrow (by simp; omega) (fun g hg => (HO.out.lt g hg).1)); clear hown hgrow)
      go_ret
      refine ⟨_, rfl, ?_, HB2.out⟩
      rw [HF.out, List.length_append, List.map_append]
      exact HO2.out
    · have hbz : (m : Int) ≥ 128 := by omega
      obtain ⟨q, hq⟩ : ∃ q, q = m % 256 := ⟨_, rfl⟩
      have h1 : (m : Int) % 256 = (q : Int) := by omega
      obtain ⟨x, hxq⟩ : ∃ x, x = UInt8.ofNat (q % 128 + 128) := ⟨_, rfl⟩
      have h2 : bits .or .u8 (q : Int) 128 = (x.toNat : Int) := by
        rw [or128_8 q (by omega), hxq, ofNat_toNat (by omega)]
      have hnx : (xs ++ [x]) ++ putL (m / 128) = Z := by
        rw [← HX.out, putL_big (n := m) (by omega), hxq, hq, List.append_assoc, show m % 256 % 128 = m % 128 by omega]
        rfl
      have HN := Lib.hid hnx
      clear hnx hxq hq
      go_wp2_with (at_builtin; refine wpList_append_src _ rfl (.tmp 9) (.tmp 13) 25 rfl base 5 i0 (.int .u8 0) 1 Tryz.underlying25 hi hz0 hz1 hz2 rfl _ xs.length _ rfl (own_alloc HO.out _) _ 1 1 _ rfl (one_src wr x) (u8_one [x]) (by unfold maxLen; omega) (by omega) (by simp; omega) ?_; intro v w2 hown hgrow _)
      have HO2 := Lib.hid hown
      have HB2 := Lib.hid ((HB.out.alloc hsb _).grown hgrow (by simp; omega) (fun g hg => (HO.out.lt g hg).1))
      clear hown hgrow
      refine ⟨⟨m / 128, xs ++ [x], by go_num, by omega, HN.out, HB2.out, ?_⟩, ?_⟩
      · rw [List.length_append, List.map_append]
        exact HO2.out
      · simp [intOf]
        omega

set_option maxHeartbeats 4000000 in
set_option maxRecDepth 100000 in
theorem lPut_any (w : World) (n : Nat) (hn : n < 18446744073709551616) :
    Calls Tryz.prog 54 #[.int .u64 n] w fun e w' => ∃ v, e = .returned v ∧ w'.ownsRow w.heap.size 5 1 v (putL n).length ((putL n).map byteV) ∧ Below w.heap.size w w' := by
  go_enter Tryz.func54, Tryz.ntmps54
  go_wp2_with fail
  refine (lAdd_any w w.heap.size (Nat.le_refl _) (.slice none 0 0) [] (by simp) ⟨rfl, .inl ⟨rfl, rfl⟩⟩ n hn).mono ?_
  rintro e w1 ⟨v, rfl, hO, hB⟩
  have HO := Lib.hid hO
  have HB := Lib.hid hB
  clear hO hB
  go_wp2
  go_ret
  exact ⟨v, rfl, by simpa using HO.out, HB.out⟩
end Go.Proofs.YtmhiekbpmoikfaaGreatDoor
namespace Go.Proofs.YtmhiekbpmoikfaaGreatDoor
open Go.RowKit Go.Maps Go.WideMaps

set_option maxHeartbeats 4000000 in
set_option maxRecDepth 100000 in
theorem r3Put_any (w : World) (n : Nat) (hn : n < 18446744073709551616) :
    Calls Tryz.prog 56 #[.int .u64 n] w fun e w' => ∃ v, e = .returned v ∧ w'.ownsRow w.heap.size 5 1 v (putL n).length ((putL n).map byteV) ∧ Below w.heap.size w w' := by
  obtain ⟨i0, hi, hz0, hz1, hz2⟩ := info_parts byteInfo
  go_enter Tryz.func56, Tryz.ntmps56
  go_wp2
  go_loopw [0, 3] (fun s v wr => ∃ (m : Nat) (xs : Nm), s = .int .u64 m ∧ m ≤ n ∧ xs ++ putL m = putL n ∧ Below w.heap.size w wr ∧ wr.ownsRow w.heap.size 5 1 v xs.length (xs.map byteV)) (fun s _ _ => (intOf s).toNat)
  case atStart => exact ⟨n, [], rfl, Nat.le_refl _, rfl, Below.refl _ _, ⟨rfl, .inl ⟨rfl, rfl⟩⟩⟩
  case round =>
    obtain ⟨m, xs, rfl, hm, hx, hB, hO⟩ := hrel
    have HX := Lib.hid hx
    have HB := Lib.hid hB
    have HO := Lib.hid hO
    clear hx hB hO
    have hlen : xs.length ≤ 10 := by
      have h1 := putL_len n (by omega)
      rw [← HX.out, List.length_append] at h1
      omega
    obtain ⟨Av, cv, hv⟩ := own_slice HO.out
    subst hv
    rcases Nat.lt_or_ge m 128 with hs | hb
    · have hsz : ¬ (m : Int) ≥ 128 := by omega
      obtain ⟨x, rfl⟩ : ∃ x : UInt8, m = x.toNat := ⟨UInt8.ofNat m, (ofNat_toNat (by omega)).symm⟩
      have hmz : (x.toNat : Int) % 256 = (x.toNat : Int) := by omega
      have hfin : putL n = xs ++ [x] := by rw [← HX.out, putL_small hs]; simp
      have HF := Lib.hid hfin
      clear hfin
      go_wp2_with (at_builtin; refine wpList_append_src _ rfl (.tmp 15) (.tmp 18) 25 rfl w.heap.size 5 i0 (.int .u8 0) 1 Tryz.underlying25 hi hz0 hz1 hz2 rfl _ xs.length _ rfl (own_alloc HO.out _) _ 1 1 _ rfl (one_src wr x) (u8_one [x]) (by unfold maxLen; omega) (by omega) (by have := HB.out.size; simp; omega) ?_; intro v w2 hown hgrow _; have HO2 := Lib.hid hown; have HB2 := Lib.hid ((HB.out.alloc HB.out.size _).grown hgrow (by have := HB.out.size; simp; omega) (fun g hg => (HO.out.lt g hg).1)); clear hown hgrow)
      go_ret
      refine ⟨_, rfl, ?_, HB2.out⟩
      rw [HF.out, List.length_append, List.map_append]
      exact HO2.out
    · have hbz : (m : Int) ≥ 128 := by omega
      have h1 := and127_64 m (by omega)
      obtain ⟨q, hq⟩ : ∃ q, q = m % 128 + 128 := ⟨_, rfl⟩
      obtain ⟨x, hxq⟩ : ∃ x, x = UInt8.ofNat q := ⟨_, rfl⟩
      have h2 : bits .or .u64 ((m : Int) % 128) 128 = (q : Int) := by
        rw [show (m : Int) % 128 = ((m % 128 : Nat) : Int) by omega, or128_64 (m % 128) (by omega), hq]
      have h3 : (q : Int) % 256 = (x.toNat : Int) := by rw [hxq, ofNat_toNat (by omega)]; omega
      have hnx : (xs ++ [x]) ++ putL (m / 128) = putL n := by
        rw [← HX.out, putL_big (n := m) (by omega), hxq, hq, List.append_assoc]
        rfl
      have HN := Lib.hid hnx
      clear hnx hxq hq
      go_wp2_with (at_builtin; refine wpList_append_src _ rfl (.tmp 6) (.tmp 11) 25 rfl w.heap.size 5 i0 (.int .u8 0) 1 Tryz.underlying25 hi hz0 hz1 hz2 rfl _ xs.length _ rfl (own_alloc HO.out _) _ 1 1 _ rfl (one_src wr x) (u8_one [x]) (by unfold maxLen; omega) (by omega) (by have := HB.out.size; simp; omega) ?_; intro v w2 hown hgrow _)
      have HO2 := Lib.hid hown
      have HB2 := Lib.hid ((HB.out.alloc HB.out.size _).grown hgrow (by have := HB.out.size; simp; omega) (fun g hg => (HO.out.lt g hg).1))
      clear hown hgrow
      refine ⟨⟨m / 128, xs ++ [x], by go_num, by omega, HN.out, HB2.out, ?_⟩, ?_⟩
      · rw [List.length_append, List.map_append]
        exact HO2.out
      · simp [intOf]
        omega
end Go.Proofs.YtmhiekbpmoikfaaGreatDoor
namespace Go.Proofs.YtmhiekbpmoikfaaGreatDoor
open Go.RowKit Go.Maps Go.WideMaps

theorem inv_u32 (s : Nat) (h : s < 4294967296) : bits .xor .u32 IntKind.u32.max (s : Int) = ((all1 ^^^ s : Nat) : Int) := u32_xor_nat 4294967295 s (by decide) h

theorem reg_snoc {l : Nm} {k : Nat} {x : UInt8} (r : Nat) (h : l[k]? = some x) : reg r (l.take (k + 1)) = step (reg r (l.take k)) x := by
  rw [List.take_add_one, h]
  simp only [Option.toList, reg_append]
  rfl

set_option maxHeartbeats 4000000 in
set_option maxRecDepth 100000 in
theorem refMore_any (w : World) (s : Nat) (hs : s < 4294967296) (A : Option Addr) (n c : Nat) (l : Nm) (hl : BytesIn w A n l) :
    Calls Tryz.prog 141 #[.int .u32 s, .slice A n c] w fun e w' => e = .returned (.int .u32 (moreN s l)) ∧ Below w.heap.size w w' := by
  have hinv := inv_u32 s hs
  have hsg : IntKind.u32.signed = false := rfl
  have hr0 : all1 ^^^ s < 4294967296 := inv_lt hs
  have hln : l.length = n := by have := hl.2.1.len; simpa using this
  have HL := Lib.hid hl
  have HLN := Lib.hid hln
  clear hl hln
  go_enter Tryz.func141, Tryz.ntmps141
  go_wp2
  clear hinv
  go_loop [5, 6] (fun r i => ∃ k : Nat, k ≤ n ∧ i = .int .i64 k ∧ r = .int .u32 (reg (all1 ^^^ s) (l.take k))) (fun _ i => n - (intOf i).toNat)
  case atStart => exact ⟨0, by omega, rfl, by simp [reg]⟩
  case round =>
    obtain ⟨k, hk, rfl, rfl⟩ := hrel
    rcases Nat.lt_or_ge k n with hlt | hge
    · have hlt' : (k : Int) < (n : Int) := by omega
      have hn63 : n ≤ 9223372036854775807 := HL.out.1
      obtain ⟨ad, hA⟩ : ∃ ad, A = some ad := by
        cases hA : A with
        | none => have := HL.out.2.1.nil hA; omega
        | some ad => exact ⟨ad, rfl⟩
      subst hA
      obtain ⟨x, hx⟩ : ∃ x, l[k]? = some x := ⟨l[k]'(by rw [HLN.out]; exact hlt), List.getElem?_eq_getElem _⟩
      have hcx := HL.out.2.1.cells ad rfl k (byteV x) (by rw [List.getElem?_map, hx]; rfl)
      unfold byteV at hcx
      obtain ⟨R, hR⟩ : ∃ R, R = reg (all1 ^^^ s) (l.take k) := ⟨_, rfl⟩
      have hR32 : R < 4294967296 := by rw [hR]; exact reg_lt hr0 _
      rw [← hR]
      have hx8 := x.toNat_lt
      have hxo : bits .xor .u32 (R : Int) (x.toNat : Int) = ((R ^^^ x.toNat : Nat) : Int) := u32_xor_nat _ _ hR32 (by omega)
      have hxl : R ^^^ x.toNat < 4294967296 := xor_lt hR32 (by omega)
      obtain ⟨X, hX⟩ : ∃ X, X = R ^^^ x.toNat := ⟨_, rfl⟩
      rw [← hX] at hxo hxl
      have HX2 := Lib.hid hX
      have HR := Lib.hid hR
      have HX := Lib.hid hx
      clear hR hx hX
      obtain ⟨blk, off, sp⟩ := ad
      go_wp2
      go_loop [5, 7] (fun r i => ∃ j : Nat, j ≤ 8 ∧ i = .int .i64 j ∧ r = .int .u32 (bitSteps j X)) (fun _ i => 8 - (intOf i).toNat)
      case atStart => exact ⟨0, by omega, rfl, rfl⟩
      case round =>
        obtain ⟨j, hj, rfl, rfl⟩ := hrel
        rcases Nat.lt_or_ge j 8 with hj8 | hj8
        · have hj8' : (j : Int) < 8 := by omega
          obtain ⟨Y, hY⟩ : ∃ Y, Y = bitSteps j X := ⟨_, rfl⟩
          have hY32 : Y < 4294967296 := by rw [hY]; exact bitSteps_lt j hxl
          rw [← hY]
          have hst : bitSteps (j + 1) X = bitStep Y := by rw [hY]; rfl
          have HST := Lib.hid hst
          clear hst hY
          have hand : bits .and .u32 (Y : Int) 1 = ((Y % 2 : Nat) : Int) := by
            have := u32_and_nat Y 1 hY32 (by decide)
            rw [nat_mask1] at this
            exact this
          rcases Nat.mod_two_eq_zero_or_one Y with h0 | h1
          · rw [h0] at hand
            go_wp2
            refine ⟨⟨j + 1, by omega, by go_num, ?_⟩, by simp [intOf]; omega⟩
            rw [HST.out]
            unfold bitStep
            rw [if_neg (by omega)]
            go_num
          · rw [h1] at hand
            have hxp : bits .xor .u32 ((Y : Int) / 2) 3988292384 = ((Y / 2 ^^^ poly : Nat) : Int) := by
              rw [show (Y : Int) / 2 = ((Y / 2 : Nat) : Int) by omega]
              exact u32_xor_nat _ _ (by omega) (by decide)
            go_wp2
            refine ⟨⟨j + 1, by omega, by go_num, ?_⟩, by simp [intOf]; omega⟩
            rw [HST.out]
            unfold bitStep
            rw [if_pos h1]
        · obtain rfl : j = 8 := by omega
          have hj8' : ¬ (((8 : Nat) : Int) < 8) := by omega
          have hst : bitSteps 8 X = step R x := by rw [HX2.out]; rfl
          rw [hst]
          clear hst
          go_wp2
          refine ⟨⟨k + 1, by omega, by go_num, ?_⟩, by simp [intOf]; omega⟩
          rw [reg_snoc _ HX.out, ← HR.out]
    · obtain rfl : k = n := by omega
      have hlz : ¬ ((k : Int) < (k : Int)) := by omega
      have hrl : l.take k = l := List.take_of_length_le (by rw [HLN.out]; exact Nat.le_refl _)
      rw [hrl]
      have hinv2 := inv_u32 (reg (all1 ^^^ s) l) (reg_lt hr0 l)
      clear hrl
      go_wp2
      go_ret
      exact ⟨rfl, Below.refl _ _⟩
set_option maxRecDepth 100000 in
theorem refSum_any (w : World) (A : Option Addr) (n c : Nat) (l : Nm) (hl : BytesIn w A n l) :
    Calls Tryz.prog 116 #[.slice A n c] w fun e w' => e = .returned (.int .u32 (sumN l)) ∧ Below w.heap.size w w' := by
  have HL := Lib.hid hl
  clear hl
  go_enter Tryz.func116, Tryz.ntmps116
  go_wp2_with fail
  refine (refMore_any w 0 (by decide) A n c l HL.out).mono ?_
  rintro e w' ⟨rfl, hb⟩
  have HB := Lib.hid hb
  clear hb
  go_wp2
  go_ret
  exact ⟨rfl, HB.out⟩

end Go.Proofs.YtmhiekbpmoikfaaGreatDoor
namespace Go.Proofs.YtmhiekbpmoikfaaGreatDoor
open Go.RowKit Go.Maps Go.WideMaps

set_option maxHeartbeats 4000000 in
set_option maxRecDepth 100000 in
theorem r4Put_any (w : World) (A : Option Addr) (n c : Nat) (l : Nm) (hl : BytesIn w A n l) (hn : n ≤ 1099511627776) :
    Calls Tryz.prog 57 #[.slice A n c] w fun e w' => ∃ v, e = .returned v ∧ w'.ownsRow w.heap.size 5 1 v (putF l).length ((putF l).map byteV) ∧ Below w.heap.size w w' := by
  obtain ⟨i0, hi, hz0, hz1, hz2⟩ := info_parts byteInfo
  have HL := Lib.hid hl
  have hln : l.length = n := by have := hl.2.1.len; simpa using this
  have HLN := Lib.hid hln
  clear hl hln
  obtain ⟨s, hs⟩ : ∃ s, s = sumN l := ⟨_, rfl⟩
  have hs32 : s < 4294967296 := by rw [hs]; exact sumN_lt l
  obtain ⟨x0, h0⟩ : ∃ x, x = UInt8.ofNat (s % 256) := ⟨_, rfl⟩
  obtain ⟨x1, h1⟩ : ∃ x, x = UInt8.ofNat (s / 256 % 256) := ⟨_, rfl⟩
  obtain ⟨x2, h2⟩ : ∃ x, x = UInt8.ofNat (s / 65536 % 256) := ⟨_, rfl⟩
  obtain ⟨x3, h3⟩ : ∃ x, x = UInt8.ofNat (s / 16777216 % 256) := ⟨_, rfl⟩
  have z0 : (s : Int) % 256 = (x0.toNat : Int) := by rw [h0, ofNat_toNat (by omega)]; omega
  have z1 : (s : Int) / 256 % 256 = (x1.toNat : Int) := by rw [h1, ofNat_toNat (by omega)]; omega
  have z2 : (s : Int) / 65536 % 256 = (x2.toNat : Int) := by rw [h2, ofNat_toNat (by omega)]; omega
  have z3 : (s : Int) / 16777216 = (x3.toNat : Int) := by rw [h3, ofNat_toNat (by omega)]; omega
  have HP : Hid (putF l = putL n ++ ([x0, x1, x2, x3] ++ l)) := Lib.hid (by unfold putF le4; rw [HLN.out, ← hs, ← h0, ← h1, ← h2, ← h3])
  have HS := Lib.hid hs
  have hpl := putL_len n (by omega)
  clear hs h0 h1 h2 h3
  go_enter Tryz.func57, Tryz.ntmps57
  go_wp2_with fail
  refine (refSum_any w A n c l HL.out).mono ?_
  rintro e w1 ⟨rfl, hb⟩
  rw [← HS.out]
  have B1 := Lib.hid hb
  have L1 := Lib.hid (HL.out.below hb)
  clear hb
  go_wp2_with fail
  refine (r3Put_any w1 n (by omega)).mono ?_
  rintro e w2 ⟨v2, rfl, hO, hb⟩
  obtain ⟨A2, c2, hv2⟩ := own_slice hO
  subst hv2
  have O2 := Lib.hid hO
  have L2 := Lib.hid (L1.out.below hb)
  have B2 := Lib.hid (below_then B1.out hb B1.out.size)
  have hs12 := B1.out.size
  have hs2 := hb.size
  clear hb hO
  have LA := Lib.hid (L2.out.below ((Below.refl _ w2).alloc (Nat.le_refl _) (.cells #[.int .u8 x0.toNat, .int .u8 x1.toNat, .int .u8 x2.toNat, .int .u8 x3.toNat] 5)))
  go_wp2_with (first
    | (at_builtin; refine wpList_append_src _ rfl (.tmp 11) (.tmp 23) 25 rfl w1.heap.size 5 i0 (.int .u8 0) 1 Tryz.underlying25 hi hz0 hz1 hz2 rfl _ _ _ rfl (own_alloc O2.out _) _ 4 4 _ rfl (new_src w2 [x0, x1, x2, x3] (by unfold maxLen; simp)) (u8_one [x0, x1, x2, x3]) (by unfold maxLen; omega) (by omega) (by simp; omega) ?_; intro v3 w3 hown hgrow _; obtain ⟨A3, c3, hv3⟩ := own_slice hown; subst hv3; have HO3 := Lib.hid hown; have HS2 : Hid (w2.heap.size ≤ w3.heap.size) := Lib.hid (by have := hgrow.size; simp at this; omega); have B3 : Hid (Below w.heap.size w w3) := Lib.hid ((B2.out.alloc B2.out.size _).grown hgrow (by have := B2.out.size; simp; omega) (fun g hg => by have := (O2.out.lt g hg).1; omega)); have L3 : Hid (BytesIn w3 A n l) := Lib.hid (HL.out.below B3.out); clear hown hgrow)
    | (at_builtin; refine wpList_append_src _ rfl (.tmp 25) (.tmp 26) 25 rfl w1.heap.size 5 i0 (.int .u8 0) 1 Tryz.underlying25 hi hz0 hz1 hz2 rfl _ _ _ rfl HO3.out A n c (l.map byteV) rfl L3.out.2.1 (u8_one l) (by unfold maxLen; omega) (by omega) (Nat.le_trans hs2 HS2.out) ?_; intro v4 w4 hown hgrow _; have HO4 := Lib.hid hown; have B4 : Hid (Below w.heap.size w w4) := Lib.hid (B3.out.grown hgrow B3.out.size (fun g hg => by have := (HO3.out.lt g hg).1; omega)); clear hown hgrow))
  go_ret
  refine ⟨_, rfl, ?_, B4.out⟩
  rw [HP.out]
  have h4 := Go.Joins.ownsRow_le HO4.out hs12
  simp only [List.length_append, List.map_append, List.append_assoc] at h4 ⊢
  rw [HLN.out]
  simpa [Nat.add_assoc] using h4
end Go.Proofs.YtmhiekbpmoikfaaGreatDoor
namespace Go.Proofs.YtmhiekbpmoikfaaGreatDoor
open Go.RowKit Go.Maps Go.WideMaps

/-- What Get leaves. -/
def GetFOut (w : World) (g : List UInt8 × Nat × Int) (e : Ending) (w' : World) : Prop :=
  ∃ v, e = .returned (.tuple #[v, .int .i64 g.2.1, .int .i64 g.2.2]) ∧ w'.ownsRow w.heap.size 5 1 v g.1.length (g.1.map byteV) ∧ Below w.heap.size w w'
theorem gferr {w w' : World} {g : List UInt8 × Nat × Int} {e : Int} (h : g = ([], 0, e)) (hb : Below w.heap.size w w') : GetFOut w g (.returned (.tuple #[.slice none 0 0, .int .i64 0, .int .i64 e])) w' := by
  subst h
  exact ⟨_, rfl, ⟨rfl, .inl ⟨rfl, rfl⟩⟩, hb⟩
theorem gfok {w w' : World} {g : List UInt8 × Nat × Int} {x : List UInt8} {m : Nat} {v : Value} (h : g = (x, m, 0)) (hb : Below w.heap.size w w') (ho : w'.ownsRow w.heap.size 5 1 v x.length (x.map byteV)) : GetFOut w g (.returned (.tuple #[v, .int .i64 m, .int .i64 0])) w' := by
  subst h
  exact ⟨v, rfl, ho, hb⟩

theorem or4 (a b c d : UInt8) : bits .or .u32 (bits .or .u32 (bits .or .u32 (a.toNat : Int) ((b.toNat : Int) * 256)) ((c.toNat : Int) * 65536)) ((d.toNat : Int) * 16777216) = ((a.toNat + 256 * b.toNat + 65536 * c.toNat + 16777216 * d.toNat : Nat) : Int) := by
  have h0 := a.toNat_lt
  have h1 := b.toNat_lt
  have h2 := c.toNat_lt
  have h3 := d.toNat_lt
  rw [show (b.toNat : Int) * 256 = ((b.toNat * 256 : Nat) : Int) by omega, show (c.toNat : Int) * 65536 = ((c.toNat * 65536 : Nat) : Int) by omega, show (d.toNat : Int) * 16777216 = ((d.toNat * 16777216 : Nat) : Int) by omega]
  have e1 : a.toNat ||| b.toNat * 256 = a.toNat + b.toNat * 256 := by
    rw [Nat.or_comm, nat_join 8 _ _ (by omega) (by omega), Nat.add_comm]
  rw [u32_or_nat _ _ (by omega) (by omega), e1]
  have e2 : (a.toNat + b.toNat * 256) ||| c.toNat * 65536 = a.toNat + b.toNat * 256 + c.toNat * 65536 := by
    rw [Nat.or_comm, nat_join 16 _ _ (by omega) (by omega), Nat.add_comm]
  rw [u32_or_nat _ _ (by omega) (by omega), e2]
  have e3 : (a.toNat + b.toNat * 256 + c.toNat * 65536) ||| d.toNat * 16777216 = a.toNat + b.toNat * 256 + c.toNat * 65536 + d.toNat * 16777216 := by
    rw [Nat.or_comm, nat_join 24 _ _ (by omega) (by omega), Nat.add_comm]
  rw [u32_or_nat _ _ (by omega) (by omega), e3]
  congr 1
  omega
theorem un4_at {l : List UInt8} {k : Nat} {a b c d : UInt8} (h0 : l[k]? = some a) (h1 : l[k + 1]? = some b) (h2 : l[k + 2]? = some c) (h3 : l[k + 3]? = some d) : un4 (l.drop k) = a.toNat + 256 * b.toNat + 65536 * c.toNat + 16777216 * d.toNat := by
  unfold un4
  simp only [List.getD_eq_getElem?_getD, List.getElem?_drop, Nat.add_zero, h0, h1, h2, h3, Option.getD_some]

set_option maxHeartbeats 4000000 in
set_option maxRecDepth 100000 in
theorem r4Get_any (w : World) (A : Option Addr) (n c : Nat) (l : Nm) (hl : BytesIn w A n l) (hc : n ≤ c) (hn : n ≤ 1099511627776) :
    Calls Tryz.prog 120 #[.slice A n c] w (GetFOut w (getF l)) := by
  obtain ⟨i0, hi, hz0, hz1, hz2⟩ := info_parts byteInfo
  have HL := Lib.hid hl
  have hln : l.length = n := by have := hl.2.1.len; simpa using this
  have HLN := Lib.hid hln
  clear hl hln
  obtain ⟨N, k, e, hg⟩ : ∃ N k e, getL l = (N, k, e) := ⟨_, _, _, rfl⟩
  obtain ⟨G, hG⟩ : ∃ G, G = getF l := ⟨_, rfl⟩
  rw [← hG]
  unfold getF at hG
  rw [hg] at hG
  simp only at hG
  have HGG := Lib.hid hg
  by_cases he : e = 0
  · subst he
    obtain ⟨g1, g2, g3, g4, g5⟩ := getL_inv hg
    rw [HLN.out] at g3
    rw [if_neg (by simp)] at hG
    clear hg g4
    by_cases hbig : 262144 < N
    · have hbz : (262144 : Int) < (N : Int) := by omega
      rw [if_pos hbig] at hG
      have HG := Lib.hid hG
      clear hG
      go_enter Tryz.func120, Tryz.ntmps120
      go_wp2_with fail
      refine (r3Get_is w A n c l HL.out HGG.out).mono ?_
      rintro e2 w2 ⟨rfl, hw⟩
      rw [hw]
      clear hw
      go_wp2
      go_ret3
      exact gferr HG.out (Below.refl _ _)
    have hbz : ¬ (262144 : Int) < (N : Int) := by omega
    rw [if_neg hbig] at hG
    obtain ⟨E, hE⟩ : ∃ E, E = k + 4 + N := ⟨_, rfl⟩
    have hK4 : IntKind.i64.wrap ((k : Int) + 4) = (k : Int) + 4 := IntWalk.i64_in _ (by omega)
    have hNz : IntKind.i64.wrap (N : Int) = (N : Int) := IntWalk.i64_in _ (by omega)
    have hEz : IntKind.i64.wrap ((k : Int) + 4 + (N : Int)) = (E : Int) := by rw [IntWalk.i64_in _ (by omega)]; omega
    rw [← hE, HLN.out] at hG
    by_cases hend : n < E
    · have hendz : (n : Int) < (E : Int) := by omega
      rw [if_pos hend] at hG
      have HG := Lib.hid hG
      clear hG hE
      go_enter Tryz.func120, Tryz.ntmps120
      go_wp2_with fail
      refine (r3Get_is w A n c l HL.out HGG.out).mono ?_
      rintro e2 w2 ⟨rfl, hw⟩
      rw [hw]
      clear hw
      go_wp2
      go_ret3
      exact gferr HG.out (Below.refl _ _)
    have hendz : ¬ (n : Int) < (E : Int) := by omega
    rw [if_neg hend] at hG
    obtain ⟨K4, hK4'⟩ : ∃ K, K = k + 4 := ⟨_, rfl⟩
    have e4 : (k : Int) + 4 = (K4 : Int) := by omega
    have e5 : (K4 : Int) + (N : Int) = (E : Int) := by omega
    obtain ⟨p0, y0, hA, hy0, cy0⟩ := HL.out.at k (by omega)
    subst hA
    obtain ⟨_, y1, hA, hy1, cy1⟩ := HL.out.at (k + 1) (by omega)
    cases hA
    obtain ⟨_, y2, hA, hy2, cy2⟩ := HL.out.at (k + 2) (by omega)
    cases hA
    obtain ⟨_, y3, hA, hy3, cy3⟩ := HL.out.at (k + 3) (by omega)
    cases hA
    have Y0 := Lib.hid hy0
    have Y1 := Lib.hid hy1
    have Y2 := Lib.hid hy2
    have Y3 := Lib.hid hy3
    have cz1 : w.cell? ⟨p0.block, p0.off + (k + 1), none⟩ = some (.int .u8 y1.toNat) := by simpa [Addr.add] using cy1
    have cz2 : w.cell? ⟨p0.block, p0.off + (k + 2), none⟩ = some (.int .u8 y2.toNat) := by simpa [Addr.add] using cy2
    have cz3 : w.cell? ⟨p0.block, p0.off + (k + 3), none⟩ = some (.int .u8 y3.toNat) := by simpa [Addr.add] using cy3
    clear hy0 hy1 hy2 hy3 cy1 cy2 cy3
    have b0 := y0.toNat_lt
    have b1 := y1.toNat_lt
    have b2 := y2.toNat_lt
    have b3 := y3.toNat_lt
    have hK1 : (k : Int) + 1 < (n : Int) := by omega
    have hK2 : (k : Int) + 2 < (n : Int) := by omega
    have hK3 : (k : Int) + 3 < (n : Int) := by omega
    have hK0 : (k : Int) < (n : Int) := by omega
    have w1 : IntKind.i64.wrap ((k : Int) + 1) = (k : Int) + 1 := IntWalk.i64_in _ (by omega)
    have w2' : IntKind.i64.wrap ((k : Int) + 2) = (k : Int) + 2 := IntWalk.i64_in _ (by omega)
    have w3' : IntKind.i64.wrap ((k : Int) + 3) = (k : Int) + 3 := IntWalk.i64_in _ (by omega)
    have HG := Lib.hid hG
    clear hG hE hK4'
    go_enter Tryz.func120, Tryz.ntmps120
    go_wp2_with fail
    refine (r3Get_is w (some p0) n c l HL.out HGG.out).mono ?_
    rintro e2 w2 ⟨rfl, hw⟩
    rw [hw]
    clear hw
    go_wp2_with fail
    go_quiet (fail)
    obtain ⟨U, hU⟩ : ∃ U, U = un4 (l.drop k) := ⟨_, rfl⟩
    have hun : bits .or .u32 (bits .or .u32 (bits .or .u32 (y0.toNat : Int) ((y1.toNat : Int) * 256)) ((y2.toNat : Int) * 65536)) ((y3.toNat : Int) * 16777216) = (U : Int) := by
      rw [hU, or4 y0 y1 y2 y3, un4_at Y0.out Y1.out Y2.out Y3.out]
    rw [hun]
    rw [← hU] at HG
    clear hun hU cy0 cz1 cz2 cz3
    obtain ⟨x, hx⟩ : ∃ x, x = (l.drop (k + 4)).take N := ⟨_, rfl⟩
    have s3 : ∀ w, (Instr.slice 25 (.slice (some p0) n c) (some (.int .i64 K4)) (some (.int .i64 E)) none).run Tryz.prog w = .ok (.slice (cutAddr (some p0) K4 c) N (c - K4)) w := fun w => by
      have h := slice_both w (some p0) n c K4 E (by omega) (by omega)
      rw [h, show E - K4 = N by omega]
    have hsub := HL.out.sub hc K4 E (by omega) (by omega)
    rw [show E = K4 + N by omega, drop_take', Nat.add_sub_cancel_left, show K4 = k + 4 by omega, ← hx, show k + 4 = K4 by omega] at hsub
    have HSUB := Lib.hid hsub
    rw [← hx] at HG
    have HXN : Hid (x.length = N) := Lib.hid (by rw [hx]; simp; have := HLN.out; omega)
    have hNl : N ≤ 262144 := by omega
    clear hsub hx
    obtain ⟨W, hW⟩ : ∃ W, W = w.drewN nq := ⟨_, rfl⟩
    rw [← hW]
    have hbW : Below w.heap.size w W := by rw [hW]; exact below_drewN (Below.refl _ _) _
    have BW := Lib.hid hbW
    have HSW := Lib.hid ((HSUB.out.below hbW).below ((Below.refl _ W).alloc (Nat.le_refl _) (.cells #[] 5)))
    clear hW hbW
    go_wp2_with (at_builtin; refine wpList_append_src _ rfl (.tmp 60) (.tmp 65) 25 rfl w.heap.size 5 i0 (.int .u8 0) 1 Tryz.underlying25 hi hz0 hz1 hz2 rfl _ 0 [] rfl (World.ownsRow_made W #[] 0 BW.out.size (Nat.zero_le _) rfl) (cutAddr (some p0) K4 c) N _ _ rfl HSW.out.2.1 (u8_one x) (by unfold maxLen; omega) (by omega) (by have := BW.out.size; simp; omega) ?_; intro v3 w3 hown hgrow _; obtain ⟨A3, c3, hv3⟩ := own_slice hown; subst hv3; rw [Nat.zero_add, List.nil_append] at hown; have HO3 := Lib.hid hown; have B3 : Hid (Below w.heap.size w w3) := Lib.hid ((BW.out.alloc BW.out.size _).grown hgrow (by have := BW.out.size; simp; omega) (fun g hg => by cases hg; exact BW.out.size)); clear hown hgrow)
    refine (refSum_any w3 A3 N c3 x (BytesIn.own HO3.out (by unfold maxLen; omega))).mono ?_
    rintro e4' w4 ⟨rfl, hb⟩
    have B4 := Lib.hid (below_then B3.out hb B3.out.size)
    have O4 := Lib.hid (ownsRow_block HO3.out (w' := w4) fun g hg => hb.block g (HO3.out.lt g hg).2)
    clear hb
    by_cases hsum : sumN x = U
    · have d0 : (((sumN x : Nat) : Int) != (U : Int)) = false := by rw [hsum]; simp
      have hG := HG.out
      rw [if_neg (by simpa using hsum)] at hG
      have HG2 := Lib.hid hG
      clear hG
      go_wp2
      go_ret3
      exact gfok HG2.out B4.out (by rw [HXN.out]; exact O4.out)
    · have d0 : (((sumN x : Nat) : Int) != (U : Int)) = true := by simpa using fun e => hsum (by omega)
      have hG := HG.out
      rw [if_pos (by simpa using hsum)] at hG
      have HG2 := Lib.hid hG
      clear hG hsum
      go_wp2
      go_ret3
      exact gferr HG2.out B4.out
  · rw [if_pos he] at hG
    have HG := Lib.hid hG
    clear hG hg
    have d1 : (e != 0) = true := by simpa using he
    go_enter Tryz.func120, Tryz.ntmps120
    go_wp2_with fail
    refine (r3Get_is w A n c l HL.out HGG.out).mono ?_
    rintro e2 w2 ⟨rfl, hw⟩
    rw [hw]
    clear hw
    go_wp2
    go_ret3
    exact gferr HG.out (Below.refl _ _)
end Go.Proofs.YtmhiekbpmoikfaaGreatDoor
namespace Go.Proofs.YtmhiekbpmoikfaaGreatDoor
open Go.RowKit Go.Maps Go.WideMaps

set_option maxHeartbeats 4000000 in
set_option maxRecDepth 100000 in
theorem lGet_any (w : World) (A : Option Addr) (n c : Nat) (l : Nm) (hl : BytesIn w A n l) :
    Calls Tryz.prog 117 #[.slice A n c] w fun e w' => e = .returned (gotV (getL l)) ∧ w' = w := by
  have HL := Lib.hid hl
  have hln : l.length = n := by have := hl.2.1.len; simpa using this
  have HLN := Lib.hid hln
  clear hl hln
  have hn63 : n ≤ 9223372036854775807 := HL.out.1
  go_enter Tryz.func117, Tryz.ntmps117
  go_wp2
  go_loop [5, 10] (fun a i => ∃ acc k : Nat, k ≤ 9 ∧ a = .int .u64 acc ∧ i = .int .i64 k ∧ acc < 2 ^ (7 * k) ∧ k ≤ n ∧ getAux k acc (l.drop k) = getL l) (fun _ i => 10 - (intOf i).toNat)
  case atStart => exact ⟨0, 0, by omega, rfl, rfl, by omega, by omega, rfl⟩
  case round =>
    obtain ⟨acc, k, hk, rfl, rfl, hacc, hkn, hg⟩ := hrel
    have HG := Lib.hid hg
    have HACC := Lib.hid hacc
    clear hg hacc
    rcases Nat.lt_or_ge k n with hlt | hge
    · have hlt' : (k : Int) < (n : Int) := by omega
      obtain ⟨ad, x, rfl, hx, hcx⟩ := HL.out.at k hlt
      have hx8 := x.toNat_lt
      have HX := Lib.hid hx
      clear hx
      have a1 := and127_8 x.toNat (by omega)
      have hdrop : l.drop k = x :: l.drop (k + 1) := by
        obtain ⟨h1, h2⟩ := List.getElem?_eq_some_iff.1 HX.out
        rw [← h2, List.getElem_cons_drop]
      have HD := Lib.hid hdrop
      clear hdrop
      by_cases hbad : (k = 9 ∧ 1 < x.toNat) ∨ (x.toNat = 0 ∧ 0 < k)
      · have hend : getL l = (0, 0, 32) := by
          rw [← HG.out, HD.out]
          simp only [getAux]
          rw [if_pos hbad]
        rw [hend]
        rcases hbad with ⟨h9, h1⟩ | ⟨h1, h2⟩
        · have h9b : ((k : Int) == 9) = true := by rw [h9]; rfl
          have h1z : (1 : Int) < (x.toNat : Int) := by omega
          clear h9
          go_wp2
          go_ret3
          exact ⟨rfl, rfl⟩
        · have h1b : ((x.toNat : Int) == 0) = true := by rw [h1]; rfl
          have h1z : ¬ (1 : Int) < (x.toNat : Int) := by omega
          have h2z : (0 : Int) < (k : Int) := by omega
          clear h1
          by_cases h9 : k = 9
          · have h9b : ((k : Int) == 9) = true := by rw [h9]; rfl
            clear h9
            go_wp2
            go_ret3
            exact ⟨rfl, rfl⟩
          · have h9b : ((k : Int) == 9) = false := by simp; omega
            go_wp2
            go_ret3
            exact ⟨rfl, rfl⟩
      · have h91 : k = 9 → x.toNat ≤ 1 := fun e => by
          rcases Nat.lt_or_ge 1 x.toNat with h | h
          · exact absurd (Or.inl ⟨e, h⟩) hbad
          · exact h
        have h0k : 0 < k → 0 < x.toNat := fun e => by
          rcases Nat.eq_zero_or_pos x.toNat with h | h
          · exact absurd (Or.inr ⟨h, e⟩) hbad
          · exact h
        have hsh := shl_or acc k x.toNat HACC.out hk (fun e => by have := h91 e; omega)
        obtain ⟨acc', hacc'⟩ : ∃ a, a = acc + x.toNat % 128 * 2 ^ (7 * k) := ⟨_, rfl⟩
        rw [← hacc'] at hsh
        have HA := Lib.hid hacc'
        have HBAD := Lib.hid hbad
        have H91 := Lib.hid h91
        have H0K := Lib.hid h0k
        clear hacc' hbad h91 h0k
        have hres : x.toNat < 128 → getL l = (acc', k + 1, 0) := fun hs => by
          rw [← HG.out, HD.out]
          simp only [getAux]
          rw [if_neg HBAD.out, if_pos hs, HA.out]
        have hnext : 128 ≤ x.toNat → acc' < 2 ^ (7 * (k + 1)) ∧ getAux (k + 1) acc' (l.drop (k + 1)) = getL l ∧ k + 1 ≤ 9 := fun hs => by
          refine ⟨?_, ?_, ?_⟩
          · rw [HA.out, pow7]
            have h1 := HACC.out
            have h2 : x.toNat % 128 + 1 ≤ 128 := by omega
            have h3 := Nat.mul_le_mul_right (2 ^ (7 * k)) h2
            rw [Nat.add_mul] at h3
            omega
          · rw [← HG.out, HD.out]
            simp only [getAux]
            rw [if_neg HBAD.out, if_neg (by omega), HA.out]
          · rcases Nat.lt_or_ge k 9 with h | h
            · exact h
            · have := H91.out (by omega)
              omega
        have HRES := Lib.hid hres
        have HNX := Lib.hid hnext
        clear hres hnext
        have fin1 : ∀ hs : x.toNat < 128, Ending.returned (.tuple #[.int .u64 acc', .int .i64 ((k : Int) + 1), .int .i64 0]) = .returned (gotV (getL l)) := fun hs => by
          rw [HRES.out hs]
          rfl
        have HF := Lib.hid fin1
        clear fin1
        by_cases h9 : k = 9
        · have h9b : ((k : Int) == 9) = true := by rw [h9]; rfl
          have h1z : ¬ (1 : Int) < (x.toNat : Int) := by have := H91.out h9; omega
          have hk0z : (0 : Int) < (k : Int) := by omega
          have hc0 : ((x.toNat : Int) == 0) = false := by have := H0K.out (by omega); simp; omega
          have hs : x.toNat < 128 := by have := H91.out h9; omega
          have hsz : (x.toNat : Int) < 128 := by omega
          clear h9
          go_wp2
          go_ret3
          exact ⟨HF.out hs, rfl⟩
        · have h9b : ((k : Int) == 9) = false := by simp; omega
          by_cases hk0 : k = 0
          · have hk0z : ¬ (0 : Int) < (k : Int) := by omega
            clear hk0
            rcases Nat.lt_or_ge x.toNat 128 with hs | hs
            · have hsz : (x.toNat : Int) < 128 := by omega
              go_wp2
              go_ret3
              exact ⟨HF.out hs, rfl⟩
            · have hsz : ¬ (x.toNat : Int) < 128 := by omega
              obtain ⟨n1, n2, n3⟩ := HNX.out hs
              have N1 := Lib.hid n1
              have N2 := Lib.hid n2
              clear n1 n2
              go_wp2
              exact ⟨⟨acc', k + 1, n3, rfl, by go_num, N1.out, by omega, N2.out⟩, by simp [intOf]; omega⟩
          · have hk0z : (0 : Int) < (k : Int) := by omega
            have hc0 : ((x.toNat : Int) == 0) = false := by have := H0K.out (by omega); simp; omega
            rcases Nat.lt_or_ge x.toNat 128 with hs | hs
            · have hsz : (x.toNat : Int) < 128 := by omega
              go_wp2
              go_ret3
              exact ⟨HF.out hs, rfl⟩
            · have hsz : ¬ (x.toNat : Int) < 128 := by omega
              obtain ⟨n1, n2, n3⟩ := HNX.out hs
              have N1 := Lib.hid n1
              have N2 := Lib.hid n2
              clear n1 n2
              go_wp2
              exact ⟨⟨acc', k + 1, n3, rfl, by go_num, N1.out, by omega, N2.out⟩, by simp [intOf]; omega⟩
    · have hlt' : ¬ (k : Int) < (n : Int) := by omega
      have hend : getL l = (0, 0, 31) := by rw [← HG.out, List.drop_of_length_le (by rw [HLN.out]; exact hge)]; rfl
      rw [hend]
      go_wp2
      go_ret3
      exact ⟨rfl, rfl⟩
theorem lGet_is (w : World) (A : Option Addr) (n c : Nat) (l : Nm) (hl : BytesIn w A n l) {v j : Nat} {e : Int} (hg : getL l = (v, j, e)) :
    Calls Tryz.prog 117 #[.slice A n c] w fun e2 w' => e2 = .returned (.tuple #[.int .u64 v, .int .i64 j, .int .i64 e]) ∧ w' = w := by
  have h := lGet_any w A n c l hl
  rw [hg] at h
  exact h
end Go.Proofs.YtmhiekbpmoikfaaGreatDoor
namespace Go.Proofs.YtmhiekbpmoikfaaGreatDoor
open Go.RowKit Go.Maps Go.WideMaps

def u32v (n : Nat) : Value := .int .u32 n
def zeros : Array Value := Array.replicate 256 (.int .u32 0)
def bitsA : Array Nat := #[1996959894, 3993919788, 124634137, 249268274, 498536548, 997073096, 1994146192, 3988292384]
def bits8 : Array Value := #[.int .u32 1996959894, .int .u32 3993919788, .int .u32 124634137, .int .u32 249268274, .int .u32 498536548, .int .u32 997073096, .int .u32 1994146192, .int .u32 3988292384]
def tabCells : Array Value := (Array.range 256).map fun i => u32v (s8 i)
theorem tabInfo : (Tryz.prog.info? 188).map (fun i => (i.zero, i.size)) = some (some (.agg zeros), 256) := by kernel_rfl

theorem lt_of_Blk {w : World} {g : Nat} {t : TypeId} {cs : Array Value} (h : Blk w g t cs) : g < w.heap.size := h.lt
structure TabAt (w wx : World) (m : Nat) : Prop where
  below : Below w.heap.size w wx
  out : Blk wx w.heap.size 188 zeros
  eight : Blk wx (w.heap.size + 1) 203 bits8
  tab : ∃ C : Array Value, C.size = 256 ∧ Blk wx (w.heap.size + 2) 188 C ∧ (∀ j, j < m → C[j]? = some (u32v (s8 j))) ∧ ∀ j, j < 256 → ∃ n : Int, C[j]? = some (.int .u32 n)
theorem or_step : ∀ (i : Fin 8) (j : Fin 128), j.val < 2 ^ i.val → bits .or .i64 ((2 ^ i.val : Nat) : Int) (j.val : Int) = ((2 ^ i.val + j.val : Nat) : Int) ∧ 2 ^ i.val ||| j.val = 2 ^ i.val + j.val := by decide +kernel
theorem eight_at : ∀ i : Fin 8, bits8[i.val]? = some (u32v (bitsA.getD i.val 0)) ∧ bitsA.getD i.val 0 < 4294967296 := by
  intro i
  match i with
  | 0 | 1 | 2 | 3 | 4 | 5 | 6 | 7 => exact ⟨rfl, by decide⟩
theorem TabAt.drew {w wx : World} {m : Nat} (h : TabAt w wx m) : TabAt w wx.drew m := ⟨h.below.drew, h.out, h.eight, h.tab⟩
theorem TabAt.put {w wx : World} {m : Nat} (h : TabAt w wx m) (hm : m < 256) : TabAt w (wx.setCell ⟨w.heap.size + 1 + 1, m, none⟩ (.int .u32 (s8 m))) (m + 1) := by
  obtain ⟨C, h1, h2, h3, h4⟩ := h.tab
  refine ⟨h.below.setCell (by simp; omega) _, h.out.far (by simp; omega) _, h.eight.far (by simp) _, C.setIfInBounds m (u32v (s8 m)), by simp [h1], h2.set_ m (u32v (s8 m)), fun j hj => ?_, fun j hj => ?_⟩
  · rw [Array.getElem?_setIfInBounds]
    by_cases e : m = j
    · subst e
      rw [if_pos rfl, if_pos (by omega)]
    · rw [if_neg e]
      exact h3 j (by omega)
  · rw [Array.getElem?_setIfInBounds]
    by_cases e : m = j
    · subst e
      rw [if_pos rfl, if_pos (by omega)]
      exact ⟨_, rfl⟩
    · rw [if_neg e]
      exact h4 j hj
theorem TabAt.start (w : World) : TabAt w (((w.alloc (.cells zeros 188)).alloc (.cells bits8 203)).alloc (.cells zeros 188)) 1 := by
  have h0 : Blk (w.alloc (.cells zeros 188)) w.heap.size 188 zeros := Blk.new w _ _
  have h1 : Blk ((w.alloc (.cells zeros 188)).alloc (.cells bits8 203)) (w.heap.size + 1) 203 bits8 := by
    have := Blk.new (w.alloc (.cells zeros 188)) 203 bits8
    simpa using this
  have h2 : Blk (((w.alloc (.cells zeros 188)).alloc (.cells bits8 203)).alloc (.cells zeros 188)) (w.heap.size + 2) 188 zeros := by
    have := Blk.new ((w.alloc (.cells zeros 188)).alloc (.cells bits8 203)) 188 zeros
    simpa using this
  refine ⟨(((Below.refl _ w).alloc (Nat.le_refl _) _).alloc (by simp) _).alloc (by simp; omega) _, (h0.alloc _).alloc _, h1.alloc _, zeros, by simp [zeros], h2, fun j hj => ?_, fun j hj => ⟨0, ?_⟩⟩
  · obtain rfl : j = 0 := by omega
    have : s8 0 = 0 := by decide
    simp [zeros, u32v, this]
  · simp [zeros, hj]

set_option maxHeartbeats 4000000 in
set_option maxRecDepth 100000 in
theorem table_any (w : World) : Calls Tryz.prog 171 #[] w fun e w' => e = .returned (.agg tabCells) ∧ Below w.heap.size w w' := by
  obtain ⟨hz, hi⟩ := zero_of_info tabInfo
  have HST := Lib.hid (TabAt.start w)
  go_enter Tryz.func171, Tryz.ntmps171
  go_wp2
  have hz2 : s8 0 = 0 := by decide
  go_loopw [7] (fun s wr => ∃ i : Nat, i ≤ 8 ∧ s = .int .i64 i ∧ TabAt w wr (2 ^ i)) (fun s _ => 8 - (intOf s).toNat)
  case atStart => exact ⟨0, by omega, rfl, HST.out⟩
  case round =>
    obtain ⟨i, hi8, rfl, hT⟩ := hrel
    clear HST
    have HT := Lib.hid hT
    clear hT
    rcases Nat.lt_or_ge i 8 with hlt | hge
    · have hlt' : (i : Int) < 8 := by omega
      obtain ⟨M, hM⟩ : ∃ M : Nat, M = 2 ^ i := ⟨_, rfl⟩
      have hMl : M ≤ 128 := by
        have := Nat.pow_le_pow_right (n := 2) (by omega) (show i ≤ 7 by omega)
        omega
      have hshl : wrap64 (2 ^ i) = (M : Int) := by
        have e : (2 : Int) ^ i = ((2 ^ i : Nat) : Int) := by simp
        rw [e, ← hM]
        unfold wrap64
        omega
      rw [← hM] at HT
      obtain ⟨B, hB⟩ : ∃ B : Nat, B = bitsA.getD i 0 := ⟨_, rfl⟩
      have he8 := eight_at ⟨i, hlt⟩
      simp only at he8
      rw [← hB] at he8
      obtain ⟨he8, hB32⟩ := he8
      have HE := Lib.hid he8
      have HM := Lib.hid hM
      have HB := Lib.hid hB
      clear he8 hM hB
      go_wp2
      rw [hshl]
      clear hshl
      go_loopw [13] (fun s wr => ∃ l : Nat, l ≤ M ∧ s = .int .i64 l ∧ TabAt w wr (M + l)) (fun s _ => M - (intOf s).toNat)
      case atStart => exact ⟨0, by omega, rfl, HT.out⟩
      case round =>
        clear HT
        obtain ⟨l, hlM, rfl, hT⟩ := hrel
        have HT := Lib.hid hT
        clear hT
        rcases Nat.lt_or_ge l M with hl | hl
        · have hl1 : (l : Int) < (M : Int) := by omega
          have hl2 : (l : Int) < 256 := by omega
          have hl3 : ((M + l : Nat) : Int) < 256 := by omega
          have hor : bits .or .i64 (M : Int) (l : Int) = ((M + l : Nat) : Int) := by
            have := (or_step ⟨i, hlt⟩ ⟨l, by omega⟩ (by rw [HM.out] at hl; exact hl)).1
            rw [HM.out]
            exact this
          obtain ⟨C, hC1, hC2, hC3, hC4⟩ := HT.out.tab
          have c1 : wr.cell? ⟨w.heap.size + 1 + 1, l, none⟩ = some (.int .u32 (s8 l)) := (hC2.cell l).trans (hC3 l (by omega))
          have c2 : wr.cell? ⟨w.heap.size + 1, i, none⟩ = some (.int .u32 B) := (HT.out.eight.cell i).trans HE.out
          have c3 : ∃ n : Int, wr.cell? ⟨w.heap.size + 1 + 1, M + l, none⟩ = some (.int .u32 n) := (hC4 (M + l) (by omega)).imp fun n h => (hC2.cell (M + l)).trans h
          obtain ⟨n0, c3⟩ := c3
          have z3 : wr.frozen? ⟨w.heap.size + 1 + 1, M + l, none⟩ = false := hC2.frozen _
          have hx : bits .xor .u32 ((s8 l : Nat) : Int) (B : Int) = ((s8 (M + l) : Nat) : Int) := by
            rw [u32_xor_nat _ _ (s8_lt (by omega)) hB32]
            have h1 := tab_step ⟨i, hlt⟩ ⟨l, by omega⟩ (by rw [HM.out] at hl; exact hl)
            have h2 := (or_step ⟨i, hlt⟩ ⟨l, by omega⟩ (by rw [HM.out] at hl; exact hl)).2
            simp only at h1 h2
            rw [h2, ← HM.out] at h1
            rw [h1, HB.out]
            congr 2
            match i, hlt with
            | 0, _ | 1, _ | 2, _ | 3, _ | 4, _ | 5, _ | 6, _ | 7, _ => rfl
          go_wp2
          go_region
          go_wp2
          go_roundw
          case rel => exact ⟨l + 1, by omega, by go_num, HT.out.drew.put (by omega)⟩
          case measure => simp [intOf]; omega
        · obtain rfl : l = M := by omega
          have hlz : ¬ ((l : Int) < (l : Int)) := by omega
          go_wp2
          go_roundw
          case rel => exact ⟨i + 1, by omega, by go_num, by have := HT.out; rw [HM.out] at this; rw [Nat.pow_succ, Nat.mul_two]; exact this⟩
          case measure => simp [intOf]; omega
    · obtain rfl : i = 8 := by omega
      have hlt' : ¬ (((8 : Nat) : Int) < 8) := by omega
      obtain ⟨C, hC1, hC2, hC3, -⟩ := HT.out.tab
      have hC : C = tabCells := by
        apply Array.ext_getElem?
        intro j
        rcases Nat.lt_or_ge j 256 with hj | hj
        · rw [hC3 j (by simpa using hj)]
          simp [tabCells, hj]
        · rw [Array.getElem?_eq_none (by omega), Array.getElem?_eq_none (by simp [tabCells]; omega)]
      subst hC
      have hone : tabCells.all (·.oneCell') = true := by
        rw [Array.all_eq_true_iff_forall_mem]
        intro v hv
        simp only [tabCells, Array.mem_map] at hv
        obtain ⟨j, _, rfl⟩ := hv
        rfl
      have HONE := Lib.hid hone
      clear hone
      have hC2' : wr.heap[w.heap.size + 1 + 1]? = some (.cells tabCells 188 (0, 0)) := hC2
      have hO : wr.heap[w.heap.size]? = some (.cells zeros 188 (0, 0)) := HT.out.out
      have hi' : (Tryz.prog.info? 188).map (·.size) = some tabCells.size := by rw [hC1]; exact hi
      clear hi hz
      have HC2 := Lib.hid hC2'
      have HO := Lib.hid hO
      have HI := Lib.hid hi'
      clear hC2' hO hC2 hC1 hC3 hi'
      go_wp2
      refine wp_load_row 188 (.tmp 2) rfl (w.heap.size + 1 + 1) rfl 188 tabCells (0, 0) _ HC2.out Tryz.underlying188 rfl HI.out ?_
      rename_i hK
      apply hK
      refine wpList_store_row rfl 188 (.tmp 0) (.tmp 29) rfl w.heap.size tabCells rfl rfl 188 zeros HO.out HI.out (by simp [zeros, tabCells]) HONE.out ?_
      go_wp2
      have hb := HT.out.below
      have hs := hb.size
      refine bodyPost_ret (v := .agg tabCells) ?_ rfl ⟨rfl, ⟨hb.os, hb.tape, hb.output, by simpa using hs, fun k hk => (setRow_other _ _ _ _ (by omega)).trans (hb.block k hk)⟩⟩
      exact results_cell_row rfl _ _ w.heap.size 188 tabCells (0, 0) _ rfl (setRow_heap _ _ zeros _ _ _ HO.out) Tryz.underlying188 rfl HI.out
end Go.Proofs.YtmhiekbpmoikfaaGreatDoor
namespace Go.Proofs.YtmhiekbpmoikfaaGreatDoor
open Go.RowKit Go.Maps Go.WideMaps

theorem tab_size : tabCells.size = 256 := by simp [tabCells]
theorem tab_one : tabCells.all (·.oneCell') = true := by
  rw [Array.all_eq_true_iff_forall_mem]
  intro v hv
  simp only [tabCells, Array.mem_map] at hv
  obtain ⟨j, _, rfl⟩ := hv
  rfl
theorem tab_at (j : Nat) (hj : j < 256) : tabCells[j]? = some (.int .u32 (s8 j)) := by simp [tabCells, hj, u32v]
set_option maxHeartbeats 4000000 in
set_option maxRecDepth 100000 in
theorem more_any (w : World) (s : Nat) (hs : s < 4294967296) (A : Option Addr) (n c : Nat) (l : Nm) (hl : BytesIn w A n l) :
    Calls Tryz.prog 153 #[.int .u32 s, .slice A n c] w fun e w' => e = .returned (.int .u32 (moreN s l)) ∧ Below w.heap.size w w' := by
  obtain ⟨hz, hi⟩ := zero_of_info tabInfo
  have hsc : ∀ w : World, (storeCells ⟨w.heap.size, 0, none⟩ tabCells.toList 0).run Tryz.prog (w.alloc (.cells zeros 188)) = .ok () (w.alloc (.cells tabCells 188)) := fun w =>
    run_storeCells_new w 188 zeros tabCells (by rw [tab_size]; exact hi) (by rw [tab_size]; simp [zeros]) tab_one
  have hsz := tab_size
  have hinv := inv_u32 s hs
  have hsg : IntKind.u32.signed = false := rfl
  clear hi
  have HL := Lib.hid hl
  clear hl
  go_enter Tryz.func153, Tryz.ntmps153
  go_wp2_with fail
  refine (table_any w).mono ?_
  rintro e w1 ⟨rfl, hb⟩
  have HB := Lib.hid hb
  clear hb
  go_wp2
  have HZ := Lib.hid hz
  clear hz hsc hinv
  have HT : Hid (∀ j, j < 256 → (w1.alloc (.cells tabCells 188)).cell? ⟨w1.heap.size, j, none⟩ = some (.int .u32 (s8 j))) := Lib.hid fun j hj => ((Blk.new w1 188 tabCells).cell j).trans (tab_at j hj)
  have HS : Hid (Src (w1.alloc (.cells tabCells 188)) A n (l.map byteV)) := Lib.hid (HL.out.2.1.keep fun ad e hn => by
    have h0 := HL.out.2.2 ad e hn
    have h1 := HB.out.size
    rw [Below.heap_alloc _ _ _ (by omega)]
    exact HB.out.block _ h0)
  have hr0 : all1 ^^^ s < 4294967296 := inv_lt hs
  have hln : l.length = n := by have := HL.out.2.1.len; simpa using this
  have HLN := Lib.hid hln
  clear hln
  go_loop [6, 14] (fun r i => ∃ k : Nat, k ≤ n ∧ i = .int .i64 k ∧ r = .int .u32 (reg (all1 ^^^ s) (l.take k))) (fun _ i => n - (intOf i).toNat)
  case atStart => exact ⟨0, by omega, rfl, by simp [reg]⟩
  case round =>
    obtain ⟨k, hk, rfl, rfl⟩ := hrel
    rcases Nat.lt_or_ge k n with hlt | hge
    · have hlt' : (k : Int) < (n : Int) := by omega
      have hn63 : n ≤ 9223372036854775807 := HL.out.1
      obtain ⟨ad, hA⟩ : ∃ ad, A = some ad := by
        cases hA : A with
        | none => have := HS.out.nil hA; omega
        | some ad => exact ⟨ad, rfl⟩
      subst hA
      obtain ⟨x, hx⟩ : ∃ x, l[k]? = some x := ⟨l[k]'(by rw [HLN.out]; exact hlt), List.getElem?_eq_getElem _⟩
      have hcx := HS.out.cells ad rfl k (byteV x) (by rw [List.getElem?_map, hx]; rfl)
      unfold byteV at hcx
      obtain ⟨R, hR⟩ : ∃ R, R = reg (all1 ^^^ s) (l.take k) := ⟨_, rfl⟩
      have hR32 : R < 4294967296 := by rw [hR]; exact reg_lt hr0 _
      rw [← hR]
      have hx8 := x.toNat_lt
      obtain ⟨J, hJ⟩ : ∃ J : Nat, J = (R % 256) ^^^ x.toNat := ⟨_, rfl⟩
      have hj : J < 256 := by rw [hJ]; exact xor_lt8 (by omega) (by omega)
      have hjz : (J : Int) < 256 := by omega
      have hxi : bits .xor .u8 ((R : Int) % 256) (x.toNat : Int) = (J : Int) := by
        rw [show (R : Int) % 256 = ((R % 256 : Nat) : Int) by omega, u8_xor_nat _ _ (by omega) (by omega), ← hJ]
      have ht := HT.out _ hj
      have hxo : bits .xor .u32 ((R : Int) / 256) ((s8 J : Nat) : Int) = ((step R x : Nat) : Int) := by
        rw [show (R : Int) / 256 = ((R / 256 : Nat) : Int) by omega, u32_xor_nat _ _ (by omega) (s8_lt (by omega)), step_tab, hJ]
      have HJ := Lib.hid hJ
      clear hJ
      have HR := Lib.hid hR
      have HX := Lib.hid hx
      clear hR hx
      obtain ⟨blk, off, sp⟩ := ad
      go_wp2
      go_round
      case rel =>
        refine ⟨k + 1, by omega, by go_num, ?_⟩
        rw [reg_snoc _ HX.out, ← HR.out]
      case measure => simp [intOf]; omega
    · obtain rfl : k = n := by omega
      have hlz : ¬ ((k : Int) < (k : Int)) := by omega
      have hrl : l.take k = l := List.take_of_length_le (by rw [HLN.out]; exact Nat.le_refl _)
      rw [hrl]
      have hinv2 := inv_u32 (reg (all1 ^^^ s) l) (reg_lt hr0 l)
      clear hrl
      go_wp2
      go_ret
      exact ⟨rfl, HB.out.alloc HB.out.size _⟩

set_option maxRecDepth 100000 in
theorem sum_any (w : World) (A : Option Addr) (n c : Nat) (l : Nm) (hl : BytesIn w A n l) :
    Calls Tryz.prog 140 #[.slice A n c] w fun e w' => e = .returned (.int .u32 (sumN l)) ∧ Below w.heap.size w w' := by
  have HL := Lib.hid hl
  clear hl
  go_enter Tryz.func140, Tryz.ntmps140
  go_wp2_with fail
  refine (more_any w 0 (by decide) A n c l HL.out).mono ?_
  rintro e w' ⟨rfl, hb⟩
  have HB := Lib.hid hb
  clear hb
  go_wp2
  go_ret
  exact ⟨rfl, HB.out⟩

end Go.Proofs.YtmhiekbpmoikfaaGreatDoor
namespace Go.Proofs.YtmhiekbpmoikfaaGreatDoor
open Go.RowKit Go.Maps Go.WideMaps

set_option maxHeartbeats 4000000 in
set_option maxRecDepth 100000 in
theorem fSumBytes_any (w : World) (A : Option Addr) (n c : Nat) (l : Nm) (hl : BytesIn w A n l) :
    Calls Tryz.prog 115 #[.slice A n c] w fun e w' => ∃ B, e = .returned (.slice (some B) 4 4) ∧ w.heap.size ≤ B.block ∧ BytesIn w' (some B) 4 (le4 (sumN l)) ∧ Below w.heap.size w w' := by
  have HL := Lib.hid hl
  clear hl
  obtain ⟨s, hs⟩ : ∃ s, s = sumN l := ⟨_, rfl⟩
  have hs32 : s < 4294967296 := by rw [hs]; exact sumN_lt l
  obtain ⟨x0, h0⟩ : ∃ x, x = UInt8.ofNat (s % 256) := ⟨_, rfl⟩
  obtain ⟨x1, h1⟩ : ∃ x, x = UInt8.ofNat (s / 256 % 256) := ⟨_, rfl⟩
  obtain ⟨x2, h2⟩ : ∃ x, x = UInt8.ofNat (s / 65536 % 256) := ⟨_, rfl⟩
  obtain ⟨x3, h3⟩ : ∃ x, x = UInt8.ofNat (s / 16777216 % 256) := ⟨_, rfl⟩
  have z0 : (s : Int) % 256 = (x0.toNat : Int) := by rw [h0, ofNat_toNat (by omega)]; omega
  have z1 : (s : Int) / 256 % 256 = (x1.toNat : Int) := by rw [h1, ofNat_toNat (by omega)]; omega
  have z2 : (s : Int) / 65536 % 256 = (x2.toNat : Int) := by rw [h2, ofNat_toNat (by omega)]; omega
  have z3 : (s : Int) / 16777216 = (x3.toNat : Int) := by rw [h3, ofNat_toNat (by omega)]; omega
  have HP : Hid (le4 (sumN l) = [x0, x1, x2, x3]) := Lib.hid (by unfold le4; rw [← hs, ← h0, ← h1, ← h2, ← h3])
  have HS := Lib.hid hs
  clear hs h0 h1 h2 h3
  go_enter Tryz.func115, Tryz.ntmps115
  go_wp2_with fail
  refine (sum_any w A n c l HL.out).mono ?_
  rintro e w1 ⟨rfl, hb⟩
  rw [← HS.out]
  have B1 := Lib.hid hb
  clear hb
  go_wp2
  go_ret
  refine ⟨_, rfl, B1.out.size, ?_, B1.out.alloc B1.out.size _⟩
  rw [HP.out]
  exact const_in w1 [x0, x1, x2, x3] (0, 0) (by unfold maxLen; simp)

set_option maxHeartbeats 4000000 in
set_option maxRecDepth 100000 in
theorem fPut_any (w : World) (A : Option Addr) (n c : Nat) (l : Nm) (hl : BytesIn w A n l) (hn : n ≤ 1099511627776) :
    Calls Tryz.prog 55 #[.slice A n c] w fun e w' => ∃ v, e = .returned v ∧ w'.ownsRow w.heap.size 5 1 v (putF l).length ((putF l).map byteV) ∧ Below w.heap.size w w' := by
  obtain ⟨i0, hi, hz0, hz1, hz2⟩ := info_parts byteInfo
  have HL := Lib.hid hl
  have hln : l.length = n := by have := hl.2.1.len; simpa using this
  have HLN := Lib.hid hln
  clear hl hln
  have hwn : IntKind.u64.wrap (n : Int) = (n : Int) := by rw [IntKind.wrap_u64]; omega
  have hpl := putL_len n (by omega)
  have h4 := le4_len (sumN l)
  obtain ⟨P, hP⟩ : ∃ P, P = putL n := ⟨_, rfl⟩
  obtain ⟨F, hF⟩ : ∃ F, F = le4 (sumN l) := ⟨_, rfl⟩
  have HP : Hid (putF l = P ++ (F ++ l)) := Lib.hid (by rw [hP, hF, putF, HLN.out])
  have HF := Lib.hid hF
  have HPE := Lib.hid hP
  rw [← hF] at h4
  rw [← hP] at hpl
  have H4 := Lib.hid h4
  clear hP hF h4
  go_enter Tryz.func55, Tryz.ntmps55
  go_wp2_with fail
  refine (lPut_any w n (by omega)).mono ?_
  rintro e w2 ⟨v2, rfl, hO, hb⟩
  rw [← HPE.out] at hO
  obtain ⟨A2, c2, hv2⟩ := own_slice hO
  subst hv2
  have O2 := Lib.hid hO
  have L2 := Lib.hid (HL.out.below hb)
  have B2 := Lib.hid hb
  clear hb hO
  go_wp2_with fail
  refine (fSumBytes_any w2 A n c l L2.out).mono ?_
  rintro e w3 ⟨S, rfl, hS, hSB, hb⟩
  rw [← HF.out] at hSB
  have O3 := Lib.hid (ownsRow_block O2.out fun g hg => hb.block g (O2.out.lt g hg).2)
  have L3 := Lib.hid (L2.out.below hb)
  have B3 := Lib.hid (below_then B2.out hb B2.out.size)
  have SB := Lib.hid hSB
  clear hS hSB hb
  go_wp2_with (first
    | (at_builtin; refine wpList_append_src _ rfl (.tmp 8) (.tmp 10) 25 rfl w.heap.size 5 i0 (.int .u8 0) 1 Tryz.underlying25 hi hz0 hz1 hz2 rfl _ _ _ rfl O3.out _ 4 4 _ rfl SB.out.2.1 (u8_one F) (by unfold maxLen; omega) (by omega) B3.out.size ?_; intro v4 w4 hown hgrow _; obtain ⟨A4, c4, hv4⟩ := own_slice hown; subst hv4; have HO4 := Lib.hid hown; have B4 : Hid (Below w.heap.size w w4) := Lib.hid (B3.out.grown hgrow B3.out.size (fun g hg => (O3.out.lt g hg).1)); have L4 : Hid (BytesIn w4 A n l) := Lib.hid (HL.out.below B4.out); clear hown hgrow)
    | (at_builtin; refine wpList_append_src _ rfl (.tmp 12) (.tmp 13) 25 rfl w.heap.size 5 i0 (.int .u8 0) 1 Tryz.underlying25 hi hz0 hz1 hz2 rfl _ _ _ rfl HO4.out A n c (l.map byteV) rfl L4.out.2.1 (u8_one l) (by unfold maxLen; omega) (by omega) B4.out.size ?_; intro v5 w5 hown hgrow _; have HO5 := Lib.hid hown; have B5 : Hid (Below w.heap.size w w5) := Lib.hid (B4.out.grown hgrow B4.out.size (fun g hg => (HO4.out.lt g hg).1)); clear hown hgrow))
  go_ret
  refine ⟨_, rfl, ?_, B5.out⟩
  rw [HP.out]
  have h5 := HO5.out
  simp only [List.length_append, List.map_append, List.append_assoc, H4.out] at h5 ⊢
  rw [HLN.out]
  simpa [Nat.add_assoc] using h5
end Go.Proofs.YtmhiekbpmoikfaaGreatDoor
namespace Go.Proofs.YtmhiekbpmoikfaaGreatDoor
open Go.RowKit Go.Maps Go.WideMaps

theorem le4_iff {l : List UInt8} {s : Nat} (hl : 4 ≤ l.length) (hs : s < 4294967296) : l.take 4 = le4 s ↔ s = un4 l := by
  obtain ⟨a, b, c, d, r, rfl⟩ := four hl
  constructor
  · intro h
    have h1 : a :: b :: c :: d :: r = le4 s ++ r := by
      rw [← h]
      rfl
    rw [h1, un4_le4 hs]
  · rintro rfl
    rw [le4_un4]
    rfl
/-- Inside a region that draws, more may be known from here on. -/
theorem heldMore {P : Program} {md : Region.Mode} {ops : Array Oper} {Q : Exit → Act → World → Prop} {S S' : World → Prop} (h : ∀ w, S' w → S w) : ∀ (fuel : Nat) (listed : Array Bool) (a : Act) (w : World), wpAnyH P md ops Q S' fuel listed a w → wpAnyH P md ops Q S fuel listed a w
  | 0, _, _, _, k => k
  | fuel + 1, _, _, _, k => ⟨k.1, fun i hi => wpOp_mono (fun a' w' h' => ⟨h w' h'.1, heldMore h fuel _ a' w' h'.2⟩) (k.2 i hi)⟩

set_option linter.unusedSimpArgs false in
set_option maxHeartbeats 4000000 in
set_option maxRecDepth 100000 in
theorem fGet_any (w : World) (A : Option Addr) (n c : Nat) (l : Nm) (hl : BytesIn w A n l) (hc : n ≤ c) (hn : n ≤ 1099511627776) :
    Calls Tryz.prog 58 #[.slice A n c] w (GetFOut w (getF l)) := by
  have HL := Lib.hid hl
  have hln : l.length = n := by have := hl.2.1.len; simpa using this
  have HLN := Lib.hid hln
  clear hl hln
  obtain ⟨N, k, e, hg⟩ : ∃ N k e, getL l = (N, k, e) := ⟨_, _, _, rfl⟩
  obtain ⟨G, hG⟩ : ∃ G, G = getF l := ⟨_, rfl⟩
  rw [← hG]
  unfold getF at hG
  rw [hg] at hG
  simp only at hG
  have HGG := Lib.hid hg
  by_cases he : e = 0
  · subst he
    obtain ⟨g1, g2, g3, g4, g5⟩ := getL_inv hg
    rw [HLN.out] at g3
    rw [if_neg (by simp)] at hG
    clear hg g4
    by_cases hbig : 262144 < N
    · have hbz : (262144 : Int) < (N : Int) := by omega
      rw [if_pos hbig] at hG
      have HG := Lib.hid hG
      clear hG
      go_enter Tryz.func58, Tryz.ntmps58
      go_wp2_with fail
      refine (lGet_is w A n c l HL.out HGG.out).mono ?_
      rintro e2 w2 ⟨rfl, hw⟩
      rw [hw]
      clear hw
      go_wp2
      go_ret3
      exact gferr HG.out (Below.refl _ _)
    have hbz : ¬ (262144 : Int) < (N : Int) := by omega
    rw [if_neg hbig] at hG
    obtain ⟨E, hE⟩ : ∃ E, E = k + 4 + N := ⟨_, rfl⟩
    have hK4 : IntKind.i64.wrap ((k : Int) + 4) = (k : Int) + 4 := IntWalk.i64_in _ (by omega)
    have hNz : IntKind.i64.wrap (N : Int) = (N : Int) := IntWalk.i64_in _ (by omega)
    have hEz : IntKind.i64.wrap ((k : Int) + 4 + (N : Int)) = (E : Int) := by rw [IntWalk.i64_in _ (by omega)]; omega
    rw [← hE, HLN.out] at hG
    obtain ⟨K4, hK4'⟩ : ∃ K, K = k + 4 := ⟨_, rfl⟩
    have e4 : (k : Int) + 4 = (K4 : Int) := by omega
    have e5 : (K4 : Int) + (N : Int) = (E : Int) := by omega
    by_cases hend : n < E
    · have hendz : (n : Int) < (E : Int) := by omega
      rw [if_pos hend] at hG
      have HG := Lib.hid hG
      clear hG hE hK4'
      go_enter Tryz.func58, Tryz.ntmps58
      go_wp2_with fail
      refine (lGet_is w A n c l HL.out HGG.out).mono ?_
      rintro e2 w2 ⟨rfl, hw⟩
      rw [hw]
      clear hw
      go_wp2
      go_ret3
      exact gferr HG.out (Below.refl _ _)
    have hendz : ¬ (n : Int) < (E : Int) := by omega
    rw [if_neg hend] at hG
    obtain ⟨x, hx⟩ : ∃ x, x = (l.drop (k + 4)).take N := ⟨_, rfl⟩
    obtain ⟨y, hy⟩ : ∃ y, y = (l.drop k).take 4 := ⟨_, rfl⟩
    have s3 : ∀ w, (Instr.slice 25 (.slice A n c) (some (.int .i64 K4)) (some (.int .i64 E)) none).run Tryz.prog w = .ok (.slice (cutAddr A K4 c) N (c - K4)) w := fun w => by
      have h := slice_both w A n c K4 E (by omega) (by omega)
      rw [h, show E - K4 = N by omega]
    have s4 : ∀ w, (Instr.slice 25 (.slice A n c) (some (.int .i64 k)) (some (.int .i64 K4)) none).run Tryz.prog w = .ok (.slice (cutAddr A k c) 4 (c - k)) w := fun w => by
      have h := slice_both w A n c k K4 (by omega) (by omega)
      rw [h, show K4 - k = 4 by omega]
    have hsub := HL.out.sub hc K4 E (by omega) (by omega)
    rw [show E = K4 + N by omega, drop_take', Nat.add_sub_cancel_left, show K4 = k + 4 by omega, ← hx, show k + 4 = K4 by omega] at hsub
    have HSUB := Lib.hid hsub
    have hsub2 := HL.out.sub hc k K4 (by omega) (by omega)
    rw [show K4 = k + 4 by omega, drop_take', Nat.add_sub_cancel_left, ← hy] at hsub2
    have HSUB2 := Lib.hid hsub2
    rw [← hx] at hG
    have HIFF : Hid (y = le4 (sumN x) ↔ sumN x = un4 (l.drop k)) := Lib.hid (by rw [hy]; exact le4_iff (by rw [List.length_drop]; have := HLN.out; omega) (sumN_lt x))
    have HXN : Hid (x.length = N) := Lib.hid (by rw [hx]; simp; have := HLN.out; omega)
    have hNl : N ≤ 262144 := by omega
    have HG := Lib.hid hG
    clear hG hE hK4' hsub hsub2 hx hy
    go_enter Tryz.func58, Tryz.ntmps58
    go_wp2_with fail
    refine (lGet_is w A n c l HL.out HGG.out).mono ?_
    rintro e2 w2 ⟨rfl, hw⟩
    rw [hw]
    clear hw
    go_wp2_with fail
    refine wp_region_held_drew (S := fun w' => Below w.heap.size w w') (by kernel_rfl) ?_ (fun hHeld => ?_)
    · exact (Below.refl _ _).drew
    refine wpAnyH_take (i := 0) (oi := ?oi0) (v := ?v0) ?hi0 (by kernel_rfl) (by kernel_rfl) (by kernel_rfl) ?hQ0 (Or.inl ⟨?hw0, ?hy0⟩) (by assumption) ?rest0
    case hi0 => (first | (simp only [List.getElem?_toArray, List.getElem?_cons_zero, List.getElem?_cons_succ]; rfl) | rfl)
    case hQ0 => exact fun _ _ _ h => h
    case hw0 => rfl
    case hy0 => ((intro w hSw; go_simp); first | done | with_reducible rfl)
    try simp only [Act.put, List.setIfInBounds_toArray, List.set_cons_zero, List.set_cons_succ]
    refine wpAnyH_take (i := 1) (oi := ?oi1) (v := ?v1) ?hi1 (by kernel_rfl) (by kernel_rfl) (by kernel_rfl) ?hQ1 (Or.inl ⟨?hw1, ?hy1⟩) (by assumption) ?rest1
    case hi1 => (first | (simp only [List.getElem?_toArray, List.getElem?_cons_zero, List.getElem?_cons_succ]; rfl) | rfl)
    case hQ1 => exact fun _ _ _ h => h
    case hw1 => rfl
    case hy1 => ((intro w hSw; go_simp); first | done | with_reducible rfl)
    try simp only [Act.put, List.setIfInBounds_toArray, List.set_cons_zero, List.set_cons_succ]
    refine wpAnyH_take (i := 2) (oi := ?oi2) (v := ?v2) ?hi2 (by kernel_rfl) (by kernel_rfl) (by kernel_rfl) ?hQ2 (Or.inl ⟨?hw2, ?hy2⟩) (by assumption) ?rest2
    case hi2 => (first | (simp only [List.getElem?_toArray, List.getElem?_cons_zero, List.getElem?_cons_succ]; rfl) | rfl)
    case hQ2 => exact fun _ _ _ h => h
    case hw2 => rfl
    case hy2 => ((intro w hSw; go_simp); first | done | with_reducible rfl)
    try simp only [Act.put, List.setIfInBounds_toArray, List.set_cons_zero, List.set_cons_succ]
    refine wpAnyH_take (i := 3) (oi := ?oi3) (v := ?v3) ?hi3 (by kernel_rfl) (by kernel_rfl) (by kernel_rfl) ?hQ3 (Or.inl ⟨?hw3, ?hy3⟩) (by assumption) ?rest3
    case hi3 => (first | (simp only [List.getElem?_toArray, List.getElem?_cons_zero, List.getElem?_cons_succ]; rfl) | rfl)
    case hQ3 => exact fun _ _ _ h => h
    case hw3 => rfl
    case hy3 => ((intro w hSw; go_simp); first | done | with_reducible rfl)
    try simp only [Act.put, List.setIfInBounds_toArray, List.set_cons_zero, List.set_cons_succ]
    refine wpAnyH_take (i := 4) (oi := ?oi4) (v := ?v4) ?hi4 (by kernel_rfl) (by kernel_rfl) (by kernel_rfl) ?hQ4 (Or.inl ⟨?hw4, ?hy4⟩) (by assumption) ?rest4
    case hi4 => (first | (simp only [List.getElem?_toArray, List.getElem?_cons_zero, List.getElem?_cons_succ]; rfl) | rfl)
    case hQ4 => exact fun _ _ _ h => h
    case hw4 => rfl
    case hy4 => ((intro w hSw; go_simp); first | done | with_reducible rfl)
    try simp only [Act.put, List.setIfInBounds_toArray, List.set_cons_zero, List.set_cons_succ]
    refine wpAnyH_ready (rs := [5]) (by kernel_rfl) (by simp) ?_
    refine AllReadyH.cons (o := ?o1) ?hc1 ?st1 AllReadyH.nil
    case hc1 => (simp only [List.getElem?_toArray, List.getElem?_cons_zero, List.getElem?_cons_succ]; rfl)
    intro K hK
    go_simp
    refine (fSumBytes_any _ _ _ _ x (HSUB.out.below hHeld)).mono ?_
    rintro e w5 ⟨S, rfl, hS, hSB, hb⟩
    have H5 := Lib.hid (below_then hHeld hb (Below.size hHeld))
    have SB := Lib.hid hSB
    clear hb hS hSB
    go_wp2_with fail
    refine hK.out _ _ H5.out (fun _ => ?_)
    clear hK K
    refine heldMore (S' := fun w' => w' = w5) (fun w h => h ▸ H5.out) _ _ _ _ ?_
    have hHeld2 : (fun w' => w' = w5) w5 := rfl
    try simp only [Act.put, List.setIfInBounds_toArray, List.set_cons_zero, List.set_cons_succ]
    refine wpAnyH_ready (rs := [6]) (by kernel_rfl) (by simp) ?_
    refine AllReadyH.cons (o := ?o2) ?hc2 ?st2 AllReadyH.nil
    case hc2 => (simp only [List.getElem?_toArray, List.getElem?_cons_zero, List.getElem?_cons_succ]; rfl)
    intro K hK
    go_simp
    refine (equal_any _ _ _ _ _ _ _ y (le4 (sumN x)) (HSUB2.out.below H5.out) SB.out).mono ?_
    rintro e w6 ⟨rfl, hw⟩
    rw [hw]
    clear hw w6
    go_wp2_with fail
    refine hK.out _ _ rfl (fun _ => ?_)
    clear hK K
    obtain ⟨t, ht⟩ : ∃ t, t = decide (y = le4 (sumN x)) := ⟨_, rfl⟩
    rw [← ht]
    have HT := Lib.hid ht
    clear ht
    try simp only [Act.put, List.setIfInBounds_toArray, List.set_cons_zero, List.set_cons_succ]
    refine wpAnyH_take (i := 7) (oi := ?oib7) (v := ?vb7) ?hib7 (by kernel_rfl) (by kernel_rfl) (by kernel_rfl) ?hQb7 (Or.inl ⟨?hwb7, ?hyb7⟩) (by assumption) ?restb7
    case hib7 => (first | (simp only [List.getElem?_toArray, List.getElem?_cons_zero, List.getElem?_cons_succ]; rfl) | rfl)
    case hQb7 => exact fun _ _ _ h => h
    case hwb7 => rfl
    case hyb7 => ((intro w hSw; go_simp); first | done | with_reducible rfl)
    try simp only [Act.put, List.setIfInBounds_toArray, List.set_cons_zero, List.set_cons_succ]
    refine wpAnyH_done (by kernel_rfl) ?_ _
    by_cases hsum : sumN x = un4 (l.drop k)
    · have htt : t = true := by rw [HT.out]; exact decide_eq_true (HIFF.out.2 hsum)
      rw [htt]
      have hG := HG.out
      rw [if_neg (by simpa using hsum)] at hG
      have HG2 := Lib.hid hG
      clear hG htt hsum
      go_wp2_with fail
      refine (clone_any w5 _ _ _ x (HSUB.out.below H5.out) (by omega)).mono ?_
      rintro e w7 ⟨v, rfl, hO, hb⟩
      have B7 := Lib.hid (below_then H5.out hb H5.out.size)
      have O7 := Lib.hid (Go.Joins.ownsRow_le hO H5.out.size)
      clear hO hb
      go_wp2
      go_ret3
      exact gfok HG2.out B7.out (by rw [HXN.out]; exact O7.out)
    · have htt : t = false := by rw [HT.out]; exact decide_eq_false (fun h => hsum (HIFF.out.1 h))
      rw [htt]
      have hG := HG.out
      rw [if_pos (by simpa using hsum)] at hG
      have HG2 := Lib.hid hG
      clear hG htt hsum
      go_wp2
      go_ret3
      exact gferr HG2.out H5.out
  · rw [if_pos he] at hG
    have HG := Lib.hid hG
    clear hG hg
    have d1 : (e != 0) = true := by simpa using he
    go_enter Tryz.func58, Tryz.ntmps58
    go_wp2_with fail
    refine (lGet_is w A n c l HL.out HGG.out).mono ?_
    rintro e2 w2 ⟨rfl, hw⟩
    rw [hw]
    clear hw
    go_wp2
    go_ret3
    exact gferr HG.out (Below.refl _ _)
end Go.Proofs.YtmhiekbpmoikfaaGreatDoor
