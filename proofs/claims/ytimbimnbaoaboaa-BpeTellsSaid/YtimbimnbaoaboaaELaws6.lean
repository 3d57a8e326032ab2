/- BpeTells, walked. -/
import Derived.Test.YtimbimnbaoaboaaERef5
namespace Go.Proofs.Ytimbimnbaoaboaa
open Go.RowKit Go.Maps Go.WideMaps
set_option linter.unusedSimpArgs false

theorem refEncode_is (w : World) (A B C : Option Addr) (n m ca cb p cc : Nat) (V : Voc) (s : Nm) (hV : VocSee w A B n m ca cb V) (hO : VOk V) (hs : BytesIn w C p s) {l : List Int} {k : Nat} {r : Int} (hl : encR V.mer s = l) (hk : l.length = k) (hr : encE s = r) :
    Calls Try.prog 13 #[.agg #[.slice A n ca, .slice B m cb], .slice C p cc] w (ListIs w l k r) := by
  refine (r6Encode_any w A B C n m ca cb p cc V s hV hO hs).mono ?_
  intro e w' h
  rw [hl, hr] at h
  exact h.is hk (by have := encR_len V.mer s; rw [hl] at this; omega) (fun x hx => hO.fit (hO.encR_in s x (hl ▸ hx)))
theorem refDecode_is (w : World) (A B C : Option Addr) (n m ca cb p cc : Nat) (V : Voc) (l : List Int) (hV : VocSee w A B n m ca cb V) (hO : VOk V) (hl : IntsIn w C p l) {s : Nm} {k : Nat} {r : Int} (hs : decR V.tok l = s) (hk : s.length = k) (hr : walkE V.tok l = r) :
    Calls Try.prog 15 #[.agg #[.slice A n ca, .slice B m cb], .slice C p cc] w (TextIs w s k r) := by
  have h0 := r6Decode_any w A B C n m ca cb p cc V l hV hl (fun x hx => by have := hO.s16 x hx; omega)
  unfold vocV at h0
  refine h0.mono ?_
  rintro e w' ⟨v, rfl, h1, h2⟩
  have hd := decB_is V.tok l
  rw [hs, hr] at hd
  rw [hd.1] at h1
  rw [hd.2]
  exact BytesOut.is ⟨v, rfl, h1, h2⟩ hk (by have := decR_len V.tok l; rw [hs] at this; omega)
theorem refStarts_is (w : World) (A B C : Option Addr) (n m ca cb p cc : Nat) (V : Voc) (l : List Int) (hV : VocSee w A B n m ca cb V) (hO : VOk V) (hl : IntsIn w C p l) (hp : p ≤ 1099511627776) {s : List Int} {k : Nat} {r : Int} (hs : startsR V.tok l = s) (hk : s.length = k) (hr : walkE V.tok l = r) :
    Calls Try.prog 17 #[.agg #[.slice A n ca, .slice B m cb], .slice C p cc] w (ListIs w s k r) := by
  refine (r6Starts_any w A B C n m ca cb p cc V l hV hl hO.s16 hp).mono ?_
  intro e w' h
  rw [hs, hr] at h
  exact h.is hk (by have := startsR_len (L := V.tok) (l := l); rw [hs, hl.len] at this; omega) (fun x hx => by have := startsR_fit V.tok l x (hs ▸ hx); omega)
set_option maxHeartbeats 8000000 in
set_option maxRecDepth 100000 in
theorem bpeTells_any (w : World) (A : Option Addr) (n c : Nat) (ps : List (Int × Int)) (hp : PairsIn w A n ps) (hc : n ≤ c) (B : Option Addr) (p cp : Nat) (s : Nm) (hs : BytesIn w B p s) (C : Option Addr) (o co : Nat) (l : List Int) (hl : IntsIn w C o l) :
    Calls Try.prog 3 #[.slice A n c, .slice B p cp, .slice C o co] w fun e w' => e = .returned (.bool true) ∧ Below w.heap.size w w' := by
  have HP := Lib.hid hp
  have HS := Lib.hid hs
  have HC := Lib.hid hc
  have HL := Lib.hid hl
  have hn63 : n ≤ 9223372036854775807 := hp.fit
  have hp63 : p ≤ 9223372036854775807 := hs.1
  have ho63 : o ≤ 9223372036854775807 := hl.1
  obtain ⟨V, hV⟩ : ∃ V, ofV ps = V := ⟨_, rfl⟩
  have HV := Lib.hid hV
  have HO := Lib.hid (ofV_ok ps)
  rw [hV] at HO
  clear hp hs hc hl hV
  go_enter Try.func3, Try.ntmps3
  go_wp2_with fail
  refine (bpeHead_any w).mono ?_
  rintro e w1 ⟨rfl, hb⟩
  have HB1 := Lib.hid hb
  clear hb
  rcases Nat.lt_or_ge 100 n with h1 | h1
  · have d1 : (100 : Int) < (n : Int) := by omega
    go_wp2
    go_ret
    exact ⟨rfl, HB1.out⟩
  have d1 : ¬ (100 : Int) < (n : Int) := by omega
  by_cases hmid : 300 < p ∧ p ≤ 4096
  · have d2 : (300 : Int) < (p : Int) := by omega
    have d3 : (p : Int) ≤ 4096 := by omega
    go_wp2
    go_ret
    exact ⟨rfl, HB1.out⟩
  have hguard : (¬ (300 : Int) < (p : Int)) ∨ ((300 : Int) < (p : Int) ∧ ¬ (p : Int) ≤ 4096) := by omega
  clear hmid
  rcases Nat.lt_or_ge 9000 p with h2 | h2
  · have d2 : (300 : Int) < (p : Int) := by omega
    have d3 : ¬ (p : Int) ≤ 4096 := by omega
    have d4 : (9000 : Int) < (p : Int) := by omega
    clear hguard
    go_wp2
    go_ret
    exact ⟨rfl, HB1.out⟩
  have d4 : ¬ (9000 : Int) < (p : Int) := by omega
  rcases Nat.lt_or_ge 5000 o with h3 | h3
  · have d5 : (5000 : Int) < (o : Int) := by omega
    rcases hguard with d2 | ⟨d2, d3⟩
    · go_wp2
      go_ret
      exact ⟨rfl, HB1.out⟩
    · go_wp2
      go_ret
      exact ⟨rfl, HB1.out⟩
  have d5 : ¬ (5000 : Int) < (o : Int) := by omega
  rcases hguard with d2 | ⟨d2, d3⟩
  case' inl =>
    go_wp2_with fail
    clear d2
  case' inr =>
    go_wp2_with fail
    clear d2 d3
  all_goals
    clear d4
    obtain ⟨l1, hl1⟩ : ∃ l, encR V.mer s = l := ⟨_, rfl⟩
    obtain ⟨k1, hk1⟩ : ∃ k, l1.length = k := ⟨_, rfl⟩
    obtain ⟨r1, hr1⟩ : ∃ r, encE s = r := ⟨_, rfl⟩
    obtain ⟨t2, ht2⟩ : ∃ t, decR V.tok l = t := ⟨_, rfl⟩
    obtain ⟨k2, hk2⟩ : ∃ k, t2.length = k := ⟨_, rfl⟩
    obtain ⟨r2, hr2⟩ : ∃ r, walkE V.tok l = r := ⟨_, rfl⟩
    obtain ⟨l3, hl3⟩ : ∃ l', startsR V.tok l = l' := ⟨_, rfl⟩
    obtain ⟨k3, hk3⟩ : ∃ k, l3.length = k := ⟨_, rfl⟩
    have HL1 := Lib.hid hl1
    have HK1 := Lib.hid hk1
    have HR1 := Lib.hid hr1
    have HT2 := Lib.hid ht2
    have HK2 := Lib.hid hk2
    have HR2 := Lib.hid hr2
    have HL3 := Lib.hid hl3
    have HK3 := Lib.hid hk3
    clear hl1 hk1 hr1 ht2 hk2 hr2 hl3 hk3
    refine (of_is w1 A n c ps (HP.out.below HB1.out) (by omega) HC.out HV.out).mono ?_
    rintro e w2 ⟨AT, BM, n', m', ca, cb, rfl, hsee, hb⟩
    have HB2 := Lib.hid (below_then HB1.out hb HB1.out.size)
    have hb3 := (Below.refl w2.heap.size w2).alloc (Nat.le_refl _) (.cells #[.slice AT n' ca, .slice BM m' cb] 29)
    obtain ⟨W3, hW3⟩ : ∃ W3, W3 = w2.alloc (.cells #[.slice AT n' ca, .slice BM m' cb] 29) := ⟨_, rfl⟩
    have hv3 : Blk W3 w2.heap.size 29 #[.slice AT n' ca, .slice BM m' cb] := by rw [hW3]; exact Blk.new _ _ _
    rw [← hW3] at hb3
    have HS3 := Lib.hid (hsee.below hb3)
    have HB3 := Lib.hid (below_then HB2.out hb3 HB2.out.size)
    have HV3 := Lib.hid hv3
    have HW3 := Lib.hid hW3
    clear hb hsee hb3 hv3 hW3
    go_wp2_with fail
    rw [← HW3.out]
    refine (new_is W3 AT BM n' m' ca cb V HS3.out HO.out).mono ?_
    rintro e w4 ⟨b, rfl, hb, hC⟩
    have HB4 := Lib.hid (below_then HB3.out hb HB3.out.size)
    have HC4 := Lib.hid hC
    have HV4 := Lib.hid (HV3.out.below hb HV3.out.lt)
    have HS4 := Lib.hid (HS3.out.below hb)
    clear hb hC
    go_wp2_with fail
    refine (encode_is w4 b V HC4.out HO.out B p cp s (HS.out.below HB4.out) HL1.out HK1.out HR1.out).mono ?_
    rintro e w5 ⟨A5, c5, rfl, hi5, _, hb⟩
    have HB5 := Lib.hid (below_then HB4.out hb HB4.out.size)
    have HC5 := Lib.hid (HC4.out.below hb)
    have HV5 := Lib.hid (HV4.out.below hb HV4.out.lt)
    have HS5 := Lib.hid (HS4.out.below hb)
    have HI5 := Lib.hid hi5
    clear hb hi5
    obtain ⟨y0, y1⟩ := vocab_cellsO _ HV5.out
    go_wp2_with fail
    clear y0 y1
    refine (refEncode_is w5 AT BM B n' m' ca cb p cp V s HS5.out HO.out (HS.out.below HB5.out) HL1.out HK1.out HR1.out).mono ?_
    rintro e w6 ⟨A6, c6, rfl, hi6, _, hb⟩
    have HB6 := Lib.hid (below_then HB5.out hb HB5.out.size)
    have HC6 := Lib.hid (HC5.out.below hb)
    have HV6 := Lib.hid (HV5.out.below hb HV5.out.lt)
    have HS6 := Lib.hid (HS5.out.below hb)
    have HI6 := Lib.hid (HI5.out.below hb)
    have HJ6 := Lib.hid hi6
    clear hb hi6
    go_wp2_with fail
    refine (decode_is w6 b V HC6.out HO.out C o co l (HL.out.below HB6.out) HT2.out HK2.out HR2.out).mono ?_
    rintro e w7 ⟨A7, c7, rfl, hi7, _, hb⟩
    have HB7 := Lib.hid (below_then HB6.out hb HB6.out.size)
    have HC7 := Lib.hid (HC6.out.below hb)
    have HV7 := Lib.hid (HV6.out.below hb HV6.out.lt)
    have HS7 := Lib.hid (HS6.out.below hb)
    have HI7 := Lib.hid (HI6.out.below hb)
    have HJ7 := Lib.hid (HJ6.out.below hb)
    have HT7 := Lib.hid hi7
    clear hb hi7
    obtain ⟨y0, y1⟩ := vocab_cellsO _ HV7.out
    go_wp2_with fail
    clear y0 y1
    refine (refDecode_is w7 AT BM C n' m' ca cb o co V l HS7.out HO.out (HL.out.below HB7.out) HT2.out HK2.out HR2.out).mono ?_
    rintro e w8 ⟨A8, c8, rfl, hi8, _, hb⟩
    have HB8 := Lib.hid (below_then HB7.out hb HB7.out.size)
    have HC8 := Lib.hid (HC7.out.below hb)
    have HV8 := Lib.hid (HV7.out.below hb HV7.out.lt)
    have HS8 := Lib.hid (HS7.out.below hb)
    have HI8 := Lib.hid (HI7.out.below hb)
    have HJ8 := Lib.hid (HJ7.out.below hb)
    have HT8 := Lib.hid (HT7.out.below hb)
    have HU8 := Lib.hid hi8
    clear hb hi8
    go_wp2_with fail
    refine (starts_is w8 b V HC8.out HO.out C o co l (HL.out.below HB8.out) (by omega) HL3.out HK3.out HR2.out).mono ?_
    rintro e w9 ⟨A9, c9, rfl, hi9, _, hb⟩
    have HB9 := Lib.hid (below_then HB8.out hb HB8.out.size)
    have HV9 := Lib.hid (HV8.out.below hb HV8.out.lt)
    have HS9 := Lib.hid (HS8.out.below hb)
    have HI9 := Lib.hid (HI8.out.below hb)
    have HJ9 := Lib.hid (HJ8.out.below hb)
    have HT9 := Lib.hid (HT8.out.below hb)
    have HU9 := Lib.hid (HU8.out.below hb)
    have HX9 := Lib.hid hi9
    clear hb hi9
    obtain ⟨y0, y1⟩ := vocab_cellsO _ HV9.out
    go_wp2_with fail
    clear y0 y1
    refine (refStarts_is w9 AT BM C n' m' ca cb o co V l HS9.out HO.out (HL.out.below HB9.out) (by omega) HL3.out HK3.out HR2.out).mono ?_
    rintro e w10 ⟨A10, c10, rfl, hi10, _, hb⟩
    have HB10 := Lib.hid (below_then HB9.out hb HB9.out.size)
    have HI10 := Lib.hid (HI9.out.below hb)
    have HJ10 := Lib.hid (HJ9.out.below hb)
    have HT10 := Lib.hid (HT9.out.below hb)
    have HU10 := Lib.hid (HU9.out.below hb)
    have HX10 := Lib.hid (HX9.out.below hb)
    have HY10 := Lib.hid hi10
    clear hb hi10
    go_wp2_with fail
    refine (r6Same_any w10 A5 A6 k1 k1 c5 c6 l1 l1 HI10.out HJ10.out).mono ?_
    rintro e w11 ⟨rfl, z, rfl⟩
    rw [decide_eq_true rfl]
    have hbz : Below w10.heap.size w10 (w10.drewN z) := below_drewN (Below.refl _ w10) z
    have f1 := str_of (HT10.out.below hbz) c7
    have f2 := str_of (HU10.out.below hbz) c8
    have e1 : (r1 == r1) = true := by simp
    have e2 : (r2 == r2) = true := by simp
    have HBZ := Lib.hid hbz
    clear hbz
    go_wp2_with fail
    clear f1 f2
    refine (r6Same_any _ A9 A10 k3 k3 c9 c10 l3 l3 (HX10.out.below HBZ.out) (HY10.out.below HBZ.out)).mono ?_
    rintro e w12 ⟨rfl, z2, rfl⟩
    rw [decide_eq_true rfl]
    go_wp2_with fail
    go_ret
    exact ⟨rfl, below_drewN HB10.out _⟩
end Go.Proofs.Ytimbimnbaoaboaa
