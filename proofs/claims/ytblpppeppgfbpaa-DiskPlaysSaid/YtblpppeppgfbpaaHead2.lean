/- The laws' live question is answered with true. -/
import Derived.Test.YtblpppeppgfbpaaHead
namespace Go.Proofs.Ytblpppeppgfbpaa
open Go.RowKit Go.Maps Go.WideMaps

theorem src_new {w : World} {C : Array Value} {t : TypeId} {fr : Nat × Nat} (n : Nat) (h : C.size = n) : Src (w.alloc (.cells C t fr)) (some ⟨w.heap.size, 0, none⟩) n C.toList :=
  ⟨by simpa using h, fun ad e j u hu => by
    injection e with e
    subst e
    have e1 : ((⟨w.heap.size, 0, none⟩ : Addr).add j) = ⟨w.heap.size, j, none⟩ := by
      unfold Addr.add
      split
      · rename_i h0; subst h0; rfl
      · simp
    rw [e1, World.cell?_alloc_mark]
    simpa using hu, fun e => by cases e⟩

theorem madeZero (w : World) : (Instr.makeSlice 33 (.int .i64 7) (.int .i64 7)).run Try.prog w = .ok (.slice (some ⟨w.heap.size, 0, none⟩) 7 7) (w.alloc (.cells #[byteV 0, byteV 0, byteV 0, byteV 0, byteV 0, byteV 0, byteV 0] 5)) := by kernel_rfl

set_option maxHeartbeats 4000000 in
set_option maxRecDepth 100000 in
theorem head_any (w : World) : Calls Try.prog 4 #[] w fun e w' => e = .returned (.bool true) ∧ Below w.heap.size w w' := by
  have kc := fun (w : World) (C : Array Value) (n c : Nat) => Lib.run_convert_bytes_const (P := Try.prog) w 33 5 C n c Try.underlying33 Try.underlying5
  have hmk := madeZero
  obtain ⟨b, hb⟩ : ∃ b, b = w.heap.size + 2 := ⟨_, rfl⟩
  have hnew := New_any w 9 (by omega)
  rw [← hb] at hnew
  have HNEW := Lib.hid hnew
  have HB := Lib.hid hb
  clear hnew hb
  go_enter Try.func4, Try.ntmps4
  go_wp2_with fail
  refine (Hid.out HNEW).mono ?_
  rintro e w1 ⟨rfl, hD1, hB1⟩
  have M1 : Mine w w1 _ b (St.new 9) := ⟨hD1, fun i h => h.1, hB1⟩
  clear hD1 hB1
  unfold at0
  go_wp2_with fail
  refine (Create_any M1.disk rfl (by decide) (by decide) ⟨#[97]⟩ (by decide)).mono ?_
  rintro e w2 hL
  obtain ⟨n2, s2, F2, rfl, hT, M2'⟩ := M1.left hL
  obtain ⟨rfl, i, hi, hs2⟩ := create_ok hT rfl rfl okA rfl (by decide)
  have M2 : Mine w w2 F2 b (hs1 i) := by rw [hs2] at M2'; exact M2'
  clear hL hT M2' hs2 M1
  go_wp2_with fail
  refine (SyncDir_any M2.disk (show (1 : Nat) < _ by decide)).mono ?_
  rintro e w3 hL
  obtain ⟨n3, s3, F3, rfl, hT, M3'⟩ := M2.left hL
  obtain ⟨rfl, hs3⟩ := syncDir_ok hT rfl rfl
  have M3 : Mine w w3 F3 b (hs2 i) := by rw [hs3] at M3'; exact M3'
  clear hL hT M3' hs3 M2
  go_wp2_with fail
  refine (Create_any M3.disk rfl (show (2 : Nat) < _ by decide) (show (0 : Nat) < _ by decide) ⟨#[98]⟩ (by decide)).mono ?_
  rintro e w4 hL
  obtain ⟨n4, s4, F4, rfl, hT, M4'⟩ := M3.left hL
  obtain ⟨rfl, j, hj, hs4'⟩ := create_ok hT rfl rfl okB rfl (show (1 : Nat) < 64 by decide)
  have M4 : Mine w w4 F4 b (hs3 i j) := by rw [hs4'] at M4'; exact M4'
  have hji : j ≠ i := fun e => hj (by rw [e]; exact List.mem_cons_self)
  clear hL hT M4' hs4' M3
  go_wp2_with fail
  have hA4 : ∀ (o : Obj) (ad : Addr), some (⟨w4.heap.size, 0, none⟩ : Addr) = some ad → 0 < 3 → ad.block < (w4.alloc o).heap.size ∧ ¬ F4 ad.block := fun o ad e _ => by
    injection e with e
    subst e
    exact ⟨by simp, fun h => by have := M4.disk.size _ h; simp at this⟩
  have M4a : ∀ o : Obj, Mine w (w4.alloc o) F4 b (hs3 i j) := fun o => M4.later ((Below.refl _ _).alloc (Nat.le_refl _) _)
  refine (Append_any (M4a _).disk (show (3 : Nat) < _ by decide) ⟨#[97]⟩ (by decide) (some ⟨w4.heap.size, 0, none⟩) 3 3 [120, 121, 122] (by exact src_new (w := w4) (C := #[.int .u8 120, .int .u8 121, .int .u8 122]) (t := 5) (fr := (3, 4)) 3 rfl) (by decide) (hA4 _)).mono ?_
  rintro e w5 hL
  obtain ⟨n5, s5, F5, rfl, hT, M5'⟩ := (M4a _).left hL
  obtain ⟨rfl, hs5'⟩ := append_ok (i := i) hT rfl rfl (hs4_dget i j) (by have := hs4_dat3 i j hji; rw [this]; decide) (by have h1 := hs3_now i j; have h2 := hs4_dat3 i j hji; have h3 := hs3_dat2 i j; simp [lenSum, h1, h2, h3]; exact (show (3 : Nat) ≤ 9 by decide))
  have M5 : Mine w w5 F5 b (hs4 i j) := by rw [hs5'] at M5'; exact M5'
  clear hL hT M5' hs5' M4 M4a hA4
  go_wp2_with fail
  have hA5 : ∀ (o : Obj) (ad : Addr), some (⟨w5.heap.size, 0, none⟩ : Addr) = some ad → 0 < 7 → ad.block < (w5.alloc o).heap.size ∧ ¬ F5 ad.block := fun o ad e _ => by
    injection e with e
    subst e
    exact ⟨by simp, fun h => by have := M5.disk.size _ h; simp at this⟩
  have M5a : ∀ o : Obj, Mine w (w5.alloc o) F5 b (hs4 i j) := fun o => M5.later ((Below.refl _ _).alloc (Nat.le_refl _) _)
  refine (Append_any (M5a _).disk (show (4 : Nat) < _ by decide) ⟨#[97]⟩ (by decide) (some ⟨w5.heap.size, 0, none⟩) 7 7 [0, 0, 0, 0, 0, 0, 0] (by exact src_new (w := w5) (C := #[byteV 0, byteV 0, byteV 0, byteV 0, byteV 0, byteV 0, byteV 0]) (t := 5) (fr := (0, 0)) 7 rfl) (by decide) (hA5 _)).mono ?_
  rintro e w6 hL
  obtain ⟨n6, s6, F6, rfl, hT, M6'⟩ := (M5a _).left hL
  obtain ⟨rfl, hs6'⟩ := append_full (i := i) hT rfl rfl (hs4_dget i j) (by have := hs4_dat i j hji; rw [this]; decide) (by have h1 := hs4_now i j; have h2 := hs4_dat i j hji; have h3 := hs4_dat2 i j hji; simp [lenSum, h1, h2, h3]; exact (show (9 : Nat) < 10 by decide))
  have M6 : Mine w w6 F6 b (hs4 i j) := by rw [hs6'] at M6'; exact M6'
  clear hL hT M6' hs6' M5 M5a hA5
  go_wp2_with fail
  refine (Names_any M6.disk).mono ?_
  rintro e w7 ⟨v7, rfl, hr7, hb7⟩
  obtain ⟨A7, c7, hv7⟩ := own_slice hr7
  have hl7 : (hs4 i j).now.length = 2 := by rw [hs4_now]; rfl
  rw [hl7] at hv7
  rw [hv7]
  have M7 := M6.later hb7
  clear hr7 hv7 hl7 M6 hb7
  go_wp2_with fail
  have hA7 : ∀ (o : Obj) (ad : Addr), some (⟨w7.heap.size, 0, none⟩ : Addr) = some ad → 0 < 1 → ad.block < (w7.alloc o).heap.size ∧ ¬ F6 ad.block := fun o ad e _ => by
    injection e with e
    subst e
    exact ⟨by simp, fun h => by have := M7.disk.size _ h; simp at this⟩
  have M7a : ∀ o : Obj, Mine w (w7.alloc o) F6 b (hs4 i j) := fun o => M7.later ((Below.refl _ _).alloc (Nat.le_refl _) _)
  refine (Crash_any (M7a _).disk (show (1 : Nat) < _ by decide) 0 (by decide) (some ⟨w7.heap.size, 0, none⟩) 1 1 [2] (by exact src_new (w := w7) (C := #[.int .i64 2]) (t := 3) (fr := (0, 0)) 1 rfl) (hA7 _) (by intro j; unfold cutOf; cases j <;> simp)).mono ?_
  rintro e w8 ⟨rfl, ⟨F8, hD8, hF8⟩, hk8⟩
  have M8 : Mine w w8 F8 b (hs5 i j) := by
    refine ⟨hD8, fun k hk => ?_, (M7a (.cells #[.int .i64 2] 3)).below.trans (hk8.toBelow (M7a _).below.size (M7a (.cells #[.int .i64 2] 3)).new)⟩
    rcases hF8 k hk with h | h
    · exact M7.new k h
    · have := (M7a (.cells #[.int .i64 2] 3)).below.size
      omega
  clear hD8 hF8 hk8 M7a hA7 M7
  go_wp2_with fail
  refine (Read_any M8.disk ⟨#[97]⟩ (by decide)).mono ?_
  rintro e w9 ⟨v9, rfl, hr9, hb9⟩
  have hrd : readOf (hs5 i j) (⟨#[97]⟩ : ByteArray).data.toList = ([120, 121], 0) := hs5_read i j hji
  rw [hrd] at hr9 ⊢
  have M9 := M8.later hb9
  clear hb9 M8 hrd
  have HR9 := Lib.hid hr9
  clear hr9
  go_wp2_with fail
  refine (Names_any M9.disk).mono ?_
  rintro e w10 ⟨v10, rfl, hr10, hb10⟩
  obtain ⟨A10, c10, hv10⟩ := own_slice hr10
  have hl10 : (hs5 i j).now.length = 1 := by rw [hs5_now]; rfl
  rw [hl10] at hv10
  rw [hv10]
  have M10 := M9.later hb10
  have hr11 : w10.ownsRow 0 5 1 v9 2 ([120, 121].map byteV) := by
    have h := HR9.out
    refine ownsRow_block (w := w9) ⟨h.1, ?_⟩ fun g hg => hb10.block g (h.lt g hg).2
    rcases h.2 with h1 | ⟨g, cap, cur, e, h1, h2⟩
    · exact .inl h1
    · exact .inr ⟨g, cap, cur, e, Nat.zero_le _, h2⟩
  have hcv := string_of_row (d := [120, 121]) hr11
  have hact := acts_any M10.disk
  rw [hs5_acts] at hact
  have HACT := Lib.hid hact
  have HM10 := Lib.hid M10
  clear hr10 hv10 hl10 M9 hb10 hr11 hact M10
  go_wp2_with (go_at_call 15; refine (Hid.out HACT).mono ?_; rintro e w11 ⟨rfl, rfl⟩)
  go_ret
  exact ⟨rfl, HM10.out.below⟩
end Go.Proofs.Ytblpppeppgfbpaa
