/- LebReads, walked. -/
import Derived.Test.YtmncnbnloonenaaLLaws6
import Derived.Test.YtmncnbnloonenaaKPairs
import Derived.Deep.QuietTactic
import Derived.BigQuiet
namespace Go.Proofs.Ytmncnbnloonenaa
open Go.RowKit Go.Maps Go.WideMaps Go.Shelf

section
variable {H : Type} {enc : TypeId × Value → H} {w : World}
theorem lebOpsIn {A : Option Addr} {n c : Nat} {x : DataW H × List MemPlace} {fuel : Nat} {base : Nat} {spare : Nat → Bool} {held : Bool} (h : DataW.trod enc Try.prog w base spare held fuel 40 [.slice A n c] = some x) (_ : Sized 40 x.1) : ∃ l, PairsIn w A n l :=
  pairs_in Try.underlying40 (by kernel_rfl) (pair_in Try.underlying46 rfl rfl rfl (by kernel_rfl) Try.underlying3 Try.underlying3 (by kernel_rfl) (by kernel_rfl) rfl rfl) h
end
theorem rBytes_len {s : Rd} (h : s.Ok) (n : Int) : (rBytes s n).1.length ≤ s.bs.length := by
  have := h.place
  unfold rBytes
  split
  · simp
  · split
    · simp
    · simp only [List.length_take, List.length_drop]
      omega
theorem rText_len {s : Rd} (h : s.Ok) (most : Int) : (rText s most).1.length ≤ s.bs.length := by
  have h1 := rInt_ok h most
  have h2 := rBytes_len h1.1 (rInt s most).1
  rw [h1.2] at h2
  exact h2
/-- Both readers stand alike. -/
structure Both3 (w : World) (b : Nat) (g : Nat → Prop) (b3 : Nat) (A3 : Option Addr) (c3 : Nat) (s : Rd) : Prop where
  one : IsR w b g s
  two : IsR3 w b3 s A3 c3
theorem Both3.drewN {w : World} {b : Nat} {g : Nat → Prop} {b3 : Nat} {A3 : Option Addr} {c3 : Nat} {s : Rd} (h : Both3 w b g b3 A3 c3 s) (q : Nat) : Both3 (w.drewN q) b g b3 A3 c3 s := ⟨h.one.drewN q, h.two.drewN q⟩

set_option maxHeartbeats 8000000 in
set_option maxRecDepth 100000 in
theorem lebReads_any (w : World) (B : Option Addr) (n c : Nat) (l : Nm) (hl : BytesIn w B n l) (A : Option Addr) (m ca : Nat) (L : List (Int × Int)) (hL : PairsIn w A m L) :
    Calls Try.prog 8 #[.slice B n c, .slice A m ca] w fun e w' => e = .returned (.bool true) ∧ Below w.heap.size w w' := by
  have HB := Lib.hid hl
  have HL := Lib.hid hL
  have hln : l.length = n := by have := hl.2.1.len; simpa using this
  have HLN := Lib.hid hln
  have n63 : n ≤ 9223372036854775807 := hl.1
  have m63 : m ≤ 9223372036854775807 := hL.fit
  obtain ⟨i0, hi, hz0, hz1, hz2⟩ := info_parts byteInfo
  clear hl hL hln
  go_enter Try.func8, Try.ntmps8
  go_wp2_with fail
  refine (lebHead_any w).mono ?_
  rintro e w1 ⟨rfl, hb⟩
  have B1 := Lib.hid hb
  have C1 := Lib.hid ((HB.out.below hb).below ((Below.refl _ w1).alloc (Nat.le_refl _) (.cells #[] 5)))
  clear hb
  by_cases hbig : 5000 < n
  · have hbz : (5000 : Int) < (n : Int) := by omega
    go_wp2
    go_ret
    exact ⟨rfl, B1.out⟩
  have hbz : ¬ (5000 : Int) < (n : Int) := by omega
  by_cases hbig2 : 200 < m
  · have hbz2 : (200 : Int) < (m : Int) := by omega
    go_wp2
    go_ret
    exact ⟨rfl, B1.out⟩
  have hbz2 : ¬ (200 : Int) < (m : Int) := by omega
  go_wp2_with (at_builtin; refine wpList_append_src _ rfl (.tmp 28) (.tmp 29) 23 rfl w1.heap.size 5 i0 (.int .u8 0) 1 Try.underlying23 hi hz0 hz1 hz2 rfl _ 0 [] rfl (World.ownsRow_made w1 #[] 0 (Nat.le_refl _) (Nat.zero_le _) rfl) B n c (l.map byteV) rfl C1.out.2.1 (u8_one l) (by unfold maxLen; omega) (by omega) (by simp) ?_; intro v3 w3 hown hgrow hloc; obtain ⟨A0, c0, hv⟩ := own_slice hown; subst hv; rw [Nat.zero_add, List.nil_append] at hown; have HO3 := Lib.hid hown; have HB3 : Hid (Below w1.heap.size w1 w3) := Lib.hid ((((Below.refl _ w1).alloc (Nat.le_refl _) (.cells #[] 5)).grown hgrow (by simp) (fun k e => by cases e; exact Nat.le_refl _))); clear hown hgrow hloc)
  refine (lNew_any w3 A0 n c0 l (BytesIn.own HO3.out (by unfold maxLen; omega)) (by omega)).mono ?_
  rintro e w4 ⟨b, g, rfl, hbw, hgw, hR4, hB4⟩
  have hB1s := B1.out.size
  have hB3s := HB3.out.size
  have hB4s := hB4.size
  have hb4 : b < w4.heap.size := by obtain ⟨A', c', h1, _⟩ := hR4.at_; exact h1.lt
  have B3 := Lib.hid (below_then B1.out HB3.out hB1s)
  have B4 := Lib.hid (below_then B3.out hB4 B3.out.size)
  have HO4 := Lib.hid (ownsRow_block HO3.out (w' := w4) fun k hk => hB4.block k (HO3.out.lt k hk).2)
  have OLT := Lib.hid (HO3.out.lt)
  have HR4 := Lib.hid hR4
  clear hR4 hB4 HO3 HB3 C1
  unfold at0
  go_wp2_with fail
  refine (r3New_any w4 B n c l (HB.out.below B4.out) (by omega)).mono ?_
  rintro e w5 ⟨b3, A3, c3, rfl, hbw3, hR5, hB5, hA3⟩
  have hB5s := hB5.size
  have B5 := Lib.hid (below_then B4.out hB5 B4.out.size)
  have HO5 := Lib.hid (ownsRow_block HO4.out (w' := w5) fun k hk => hB5.block k (HO4.out.lt k hk).2)
  have HR5 := Lib.hid (HR4.out.kept (F := fun _ => False) ⟨hB5.os, hB5.tape, hB5.output, hB5.size, fun k hk _ => hB5.block k hk⟩ (fun h => h) (fun _ _ h => h))
  have HT5 := Lib.hid hR5
  have hbb : b ≠ b3 := by omega
  have hgb : ∀ i, g i → i ≠ b3 := fun i h e => by have := HR4.out.lt i h; omega
  have hAb : ∀ ad, A3 = some ad → 0 < n → ad.block ≠ b := fun ad e h0 h => by have := hA3 ad e h0; omega
  have hbo : ∀ i, (Value.slice A0 n c0).ownBlock = some i → i ≠ b ∧ i ≠ b3 ∧ ¬ g i ∧ (∀ ad, A3 = some ad → 0 < n → ad.block ≠ i) ∧ w.heap.size ≤ i := fun i h => by
    have h1 := OLT.out i h
    exact ⟨by omega, by omega, fun hg => by have := hgw i hg; omega, fun ad e h0 h2 => by have := hA3 ad e h0; omega, by omega⟩
  have hwb : w.heap.size ≤ b ∧ w.heap.size ≤ b3 := by omega
  have HBO := Lib.hid hbo
  have HGB := Lib.hid hgb
  have HAB := Lib.hid hAb
  clear hB5 hR5 hA3 hbo hgb hAb HR4 HO4 B4 B3 B1 OLT hbw hbw3 hgw
  unfold at0
  go_wp2
  go_loopw [9] (fun i wr => ∃ (k : Nat) (xs : Nm), k ≤ n ∧ i = .int .i64 k ∧ xs.length = n ∧ wr.ownsRow w1.heap.size 5 1 (.slice A0 n c0) n (xs.map byteV) ∧ Kept (fun i => (Value.slice A0 n c0).ownBlock = some i) w5 wr) (fun i _ => n - (intOf i).toNat)
  case atStart => exact ⟨0, l, by omega, rfl, HLN.out, HO5.out, Kept.refl _ _⟩
  case round =>
    obtain ⟨k, xs, hk, rfl, hxs, hO, hK⟩ := hrel
    have HO := Lib.hid hO
    have HK := Lib.hid hK
    clear hO hK
    rcases Nat.lt_or_ge k n with hlt | hge
    · have hlt' : (k : Int) < (n : Int) := by omega
      have p0 : (0 : Int) ≤ (k : Int) := by omega
      obtain ⟨g0, cap0, hform⟩ := Go.Joins.ownsRow_form HO.out (by omega)
      simp only [Value.slice.injEq, true_and] at hform
      obtain ⟨hA0, hc0⟩ := hform
      subst hA0 hc0
      obtain ⟨x, hx⟩ : ∃ x, xs[k]? = some x := ⟨xs[k]'(by omega), List.getElem?_eq_getElem _⟩
      have f1 := own_cell HO.out hx
      have f2 := HO.out.frozenAt k
      obtain ⟨y, hy⟩ : ∃ y : UInt8, y = UInt8.ofNat ((x.toNat + 1) % 256) := ⟨_, rfl⟩
      have hyz : IntKind.u8.wrap ((x.toNat : Int) + 1) = (y.toNat : Int) := by
        rw [hy, ofNat_toNat (by omega)]
        simp [IntKind.wrap, IntKind.bits, IntKind.signed]
      have hyz2 : ((x.toNat : Int) + 1) % 256 = (y.toNat : Int) := by
        rw [hy, ofNat_toNat (by omega)]
        omega
      have S3 := Lib.hid (HO.out.stored k (byteV y)).1
      clear hy hx
      go_wp2
      go_roundw
      case rel =>
        refine ⟨k + 1, xs.set k y, by omega, by go_num, by rw [List.length_set]; exact hxs, ?_, HK.out.setCell (p := ⟨g0, k, none⟩) (.inl rfl) _⟩
        rw [List.map_set]
        exact S3.out
      case measure => simp [intOf]; omega
    · obtain rfl : k = n := by omega
      have hlz : ¬ ((k : Int) < (k : Int)) := by omega
      have h6 := HR5.out.kept HK.out (fun h => (HBO.out b h).1 rfl) (fun i hg h => (HBO.out i h).2.2.1 hg)
      have h7 := HT5.out.same HK.out (fun h => (HBO.out b3 h).2.1 rfl) (fun ad e h0 h => (HBO.out ad.block h).2.2.2.1 ad e (by rw [← HLN.out]; exact h0) rfl)
      have h8 : Below w.heap.size w wr := B5.out.trans (HK.out.toBelow B5.out.size (fun i h => (HBO.out i h).2.2.2.2))
      have H6 := Lib.hid (Both3.mk h6 h7)
      have B6 := Lib.hid h8
      clear h6 h7 h8 HO HK
      go_wp2
      go_loopw [10] (fun i wx => ∃ (j : Nat) (s : Rd), j ≤ m ∧ i = .int .i64 j ∧ s.bs = l ∧ Both3 wx b g b3 A3 c3 s ∧ Below w.heap.size w wx) (fun i _ => m - (intOf i).toNat)
      case atStart => exact ⟨0, ⟨l, 0, 0⟩, by omega, rfl, rfl, H6.out, B6.out⟩
      case round =>
        obtain ⟨j, s, hj, rfl, hs, hBo, hBe⟩ := hrel
        have HBo := Lib.hid hBo
        have HBe := Lib.hid hBe
        have HS := Lib.hid hs
        clear hBo hBe hs H6 B6
        rcases Nat.lt_or_ge j m with hltj | hgej
        · have hlt' : (j : Int) < (m : Int) := by omega
          have p0 : (0 : Int) ≤ (j : Int) := by omega
          obtain ⟨ad, ⟨what, N⟩, rfl, hp, ch, cf, hv1, hv2⟩ := (HL.out.below HBe.out).at j hltj
          simp only at ch cf hv1 hv2
          obtain ⟨hN1, hN2⟩ := hv2
          obtain ⟨z, hz⟩ : ∃ z : Int, bits .and .i64 what 3 = z := ⟨_, rfl⟩
          have hsl : s.bs.length = k := by rw [HS.out]; exact HLN.out
          have HSL := Lib.hid hsl
          have HP := Lib.hid hp
          clear hp hv1 hsl
          by_cases hz2' : z = 2
          · subst hz2'
            obtain ⟨r, hr⟩ : ∃ r, r = rBytes s N := ⟨_, rfl⟩
            have hok := rBytes_ok HBo.out.one.ok N
            rw [← hr] at hok
            have hrl : r.1.length ≤ 5000 := by
              have h1 := rBytes_len HBo.out.one.ok N
              rw [← hr, HSL.out] at h1
              omega
            have HRR := Lib.hid hr
            have HS7 := Lib.hid hok.2
            clear hr hok
            go_wp2_with fail
            refine (lBytes_any wr b g s HBo.out.one N hN1 hN2).mono ?_
            rw [← HRR.out]
            rintro e w6 ⟨v6, rfl, hO6, hR6, hK6⟩
            obtain ⟨A6, c6, hv6⟩ := own_slice hO6
            subst hv6
            have hT6 := HBo.out.two.same hK6 (fun h => hbb h.symm) (fun ad e h0 h => HAB.out ad e (by rw [← HSL.out]; exact h0) h)
            have B6 := Lib.hid (HBe.out.trans (hK6.toBelow HBe.out.size (fun i (h : i = b) => by omega)))
            have hb3 : b3 < wr.heap.size := HBo.out.two.blk.lt
            have I6 := Lib.hid (BytesIn.own hO6 (by unfold maxLen; omega))
            have O6 := Lib.hid (hO6.lt)
            have R6 := Lib.hid hR6
            have T6 := Lib.hid hT6
            have cf6 := ((HL.out.below B6.out).cells ad rfl j _ HP.out).2
            rw [add_pos' _ _ _ (by omega)] at cf6
            simp only at cf6
            clear hO6 hR6 hK6 hT6
            go_wp2_with fail
            refine (r3Bytes_any w6 b3 s A3 c3 T6.out N hN1 hN2).mono ?_
            rw [← HRR.out]
            rintro e w7 ⟨v7, rfl, hO7, hT7, hK7⟩
            obtain ⟨A7, c7, hv7⟩ := own_slice hO7
            subst hv7
            have H7 := Lib.hid (Both3.mk (R6.out.kept hK7 hbb (fun i h => HGB.out i h)) hT7)
            have B7 := Lib.hid (B6.out.trans (hK7.toBelow B6.out.size (fun i (h : i = b3) => by omega)))
            have hcv1 : (convert 23 9 (.slice A6 r.1.length c6)).run Try.prog w7 = .ok (.string ⟨r.1.toArray⟩) w7 := str_of (I6.out.keep hK7 (fun ad e h0 h => by have := (O6.out ad.block (by rw [e]; rfl)).1; have h' : ad.block = b3 := h; omega)) c6
            have hcv2 : (convert 23 9 (.slice A7 r.1.length c7)).run Try.prog w7 = .ok (.string ⟨r.1.toArray⟩) w7 := str_of (BytesIn.own hO7 (by unfold maxLen; omega)) c7
            have e2 := H7.out.two.blk.cell 2
            simp at e2
            clear hO7 hT7 hK7 I6 O6 R6 T6 B6 HRR
            obtain ⟨rx, rs⟩ := r
            simp only at hcv1 hcv2 e2
            go_wp2_with fail
            go_quiet (first
              | (go_at_call 28; refine Calls.quiet_of_same (lErr_any _ b g _ (H7.out.one.drewN _)))
              | (go_at_call 29; refine Calls.quiet_of_same (lLeft_any _ b g _ (H7.out.one.drewN _)))
              | (go_at_call 30; refine Calls.quiet_of (r3Left_any _ b3 _ A3 c3 (H7.out.two.drewN _))))
            go_wp2
            go_roundw
            case rel => exact ⟨j + 1, _, by omega, by go_num, (HS7.out).trans HS.out, H7.out.drewN _, below_drewN B7.out _⟩
            case measure => simp [intOf]; omega
          have z2 : (z == 2) = false := by simpa using hz2'
          by_cases hz3' : z = 3
          · subst hz3'
            obtain ⟨r, hr⟩ : ∃ r, r = rText s N := ⟨_, rfl⟩
            have hok := rText_ok HBo.out.one.ok N
            rw [← hr] at hok
            have hrl : r.1.length ≤ 5000 := by
              have h1 := rText_len HBo.out.one.ok N
              rw [← hr, HSL.out] at h1
              omega
            have HRR := Lib.hid hr
            have HS7 := Lib.hid hok.2
            clear hr hok
            go_wp2_with fail
            refine (lText_any wr b g s HBo.out.one N hN1 hN2).mono ?_
            rw [← HRR.out]
            rintro e w6 ⟨v6, rfl, hO6, hR6, hK6⟩
            obtain ⟨A6, c6, hv6⟩ := own_slice hO6
            subst hv6
            have hT6 := HBo.out.two.same hK6 (fun h => hbb h.symm) (fun ad e h0 h => HAB.out ad e (by rw [← HSL.out]; exact h0) h)
            have B6 := Lib.hid (HBe.out.trans (hK6.toBelow HBe.out.size (fun i (h : i = b) => by omega)))
            have hb3 : b3 < wr.heap.size := HBo.out.two.blk.lt
            have I6 := Lib.hid (BytesIn.own hO6 (by unfold maxLen; omega))
            have O6 := Lib.hid (hO6.lt)
            have R6 := Lib.hid hR6
            have T6 := Lib.hid hT6
            have cf6 := ((HL.out.below B6.out).cells ad rfl j _ HP.out).2
            rw [add_pos' _ _ _ (by omega)] at cf6
            simp only at cf6
            clear hO6 hR6 hK6 hT6
            go_wp2_with fail
            refine (r3Text_any w6 b3 s A3 c3 T6.out N hN1 hN2).mono ?_
            rw [← HRR.out]
            rintro e w7 ⟨v7, rfl, hO7, hT7, hK7⟩
            obtain ⟨A7, c7, hv7⟩ := own_slice hO7
            subst hv7
            have H7 := Lib.hid (Both3.mk (R6.out.kept hK7 hbb (fun i h => HGB.out i h)) hT7)
            have B7 := Lib.hid (B6.out.trans (hK7.toBelow B6.out.size (fun i (h : i = b3) => by omega)))
            have hcv1 : (convert 23 9 (.slice A6 r.1.length c6)).run Try.prog w7 = .ok (.string ⟨r.1.toArray⟩) w7 := str_of (I6.out.keep hK7 (fun ad e h0 h => by have := (O6.out ad.block (by rw [e]; rfl)).1; have h' : ad.block = b3 := h; omega)) c6
            have hcv2 : (convert 23 9 (.slice A7 r.1.length c7)).run Try.prog w7 = .ok (.string ⟨r.1.toArray⟩) w7 := str_of (BytesIn.own hO7 (by unfold maxLen; omega)) c7
            have e2 := H7.out.two.blk.cell 2
            simp at e2
            clear hO7 hT7 hK7 I6 O6 R6 T6 B6 HRR
            obtain ⟨rx, rs⟩ := r
            simp only at hcv1 hcv2 e2
            go_wp2_with fail
            go_quiet (first
              | (go_at_call 28; refine Calls.quiet_of_same (lErr_any _ b g _ (H7.out.one.drewN _)))
              | (go_at_call 29; refine Calls.quiet_of_same (lLeft_any _ b g _ (H7.out.one.drewN _)))
              | (go_at_call 30; refine Calls.quiet_of (r3Left_any _ b3 _ A3 c3 (H7.out.two.drewN _))))
            go_wp2
            go_roundw
            case rel => exact ⟨j + 1, _, by omega, by go_num, (HS7.out).trans HS.out, H7.out.drewN _, below_drewN B7.out _⟩
            case measure => simp [intOf]; omega
          have z3 : (z == 3) = false := by simpa using hz3'
          clear hz2' hz3'
          obtain ⟨r, hr⟩ : ∃ r, r = rInt s N := ⟨_, rfl⟩
          have hok := rInt_ok HBo.out.one.ok N
          rw [← hr] at hok
          have HRR := Lib.hid hr
          have HS7 := Lib.hid hok.2
          clear hr hok
          go_wp2_with fail
          refine (lInt_any wr b g s HBo.out.one N hN1 hN2).mono ?_
          rw [← HRR.out]
          rintro e w6 ⟨rfl, hR6, hK6⟩
          have hT6 := HBo.out.two.same hK6 (fun h => hbb h.symm) (fun ad e h0 h => HAB.out ad e (by rw [← HSL.out]; exact h0) h)
          have B6 := Lib.hid (HBe.out.trans (hK6.toBelow HBe.out.size (fun i (h : i = b) => by omega)))
          have R6 := Lib.hid hR6
          have T6 := Lib.hid hT6
          have cf6 := ((HL.out.below B6.out).cells ad rfl j _ HP.out).2
          rw [add_pos' _ _ _ (by omega)] at cf6
          simp only at cf6
          clear hR6 hK6 hT6
          go_wp2_with fail
          refine (r3Int_any w6 b3 s A3 c3 T6.out N hN1 hN2).mono ?_
          rw [← HRR.out]
          rintro e w7 ⟨rfl, hT7, hK7⟩
          have H7 := Lib.hid (Both3.mk (R6.out.kept hK7 hbb (fun i h => HGB.out i h)) hT7)
          have B7 := Lib.hid (B6.out.trans (hK7.toBelow B6.out.size (fun i (h : i = b3) => by omega)))
          have e2 := H7.out.two.blk.cell 2
          simp at e2
          clear hT7 hK7 R6 T6 B6 HRR
          obtain ⟨rx, rs⟩ := r
          simp only at e2
          go_wp2_with fail
          go_quiet (first
            | (go_at_call 28; refine Calls.quiet_of_same (lErr_any _ b g _ (H7.out.one.drewN _)))
            | (go_at_call 29; refine Calls.quiet_of_same (lLeft_any _ b g _ (H7.out.one.drewN _)))
            | (go_at_call 30; refine Calls.quiet_of (r3Left_any _ b3 _ A3 c3 (H7.out.two.drewN _))))
          go_wp2
          go_roundw
          case rel => exact ⟨j + 1, _, by omega, by go_num, (HS7.out).trans HS.out, H7.out.drewN _, below_drewN B7.out _⟩
          case measure => simp [intOf]; omega
        · obtain rfl : j = m := by omega
          have hlz2 : ¬ ((j : Int) < (j : Int)) := by omega
          go_wp2
          go_ret
          exact ⟨rfl, HBe.out⟩
end Go.Proofs.Ytmncnbnloonenaa
