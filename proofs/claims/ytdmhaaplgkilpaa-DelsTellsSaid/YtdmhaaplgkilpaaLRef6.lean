/- The contracts of the document's reader: Bytes, Text, New. -/
import Derived.Test.YtdmhaaplgkilpaaLRef5
import Derived.Deep.DeepCutAuto
namespace Go.Proofs.Ytdmhaaplgkilpaa
open Go.RowKit Go.Maps Go.WideMaps

theorem rInt_bounds (s : Rd) (most : Int) (h1 : -9223372036854775808 ≤ most) (h2 : most ≤ 9223372036854775807) : -9223372036854775808 ≤ (rInt s most).1 ∧ (rInt s most).1 ≤ 9223372036854775807 := by
  unfold rInt
  split
  · simp
  · split
    · simp
    · split
      · simp
      · simp only
        omega
/-- What Bytes and Text leave. -/
def BytesOut (w : World) (b : Nat) (A : Option Addr) (c : Nat) (r : List UInt8 × Rd) (e : Ending) (w' : World) : Prop :=
  ∃ v, e = .returned v ∧ w'.ownsRow w.heap.size 5 1 v r.1.length (r.1.map byteV) ∧ IsR3 w' b r.2 A c ∧ Kept (fun i => i = b) w w'

theorem cut_apart {w : World} {b : Nat} {s : Rd} {A : Option Addr} {c : Nat} (h : IsR3 w b s A c) (p c' n : Nat) (hn : p + n ≤ s.bs.length) : ∀ ad, cutAddr A p c' = some ad → 0 < n → ¬ (fun i => i = b) ad.block := by
  intro ad e h0
  unfold cutAddr at e
  split at e
  · exact h.apart ad e (by omega)
  · cases A with
    | none => cases e
    | some a =>
      simp only [Option.map_some, Option.some.injEq] at e
      subst e
      have hb : (a.add p).block = a.block := by unfold Addr.add; split <;> rfl
      show ¬ (a.add p).block = b
      rw [hb]
      exact h.apart a rfl (by omega)

theorem kept_fresh {w W W2 : World} {b : Nat} {o : Obj} (h : Kept (fun i => i = b) w W) (hg : (W.drew.alloc o).grownBy W2 (some W.heap.size)) : Kept (fun i => i = b) w W2 :=
  ((h.drew).alloc o).grown hg (fun k e => by cases e; exact .inr h.size)
theorem IsR3.fresh {w W2 : World} {b : Nat} {s : Rd} {A : Option Addr} {c : Nat} (h : IsR3 w b s A c) (hk : Kept (fun i => i = b) w W2) (hb : W2.heap[b]? = w.heap[b]?) : IsR3 W2 b s A c :=
  ⟨hb.trans h.blk, h.bytes.keep hk h.apart, h.cap, h.apart, h.ok, h.fit⟩

set_option maxHeartbeats 4000000 in
set_option maxRecDepth 100000 in
theorem r3Bytes_any (w : World) (b : Nat) (s : Rd) (A : Option Addr) (c : Nat) (hR : IsR3 w b s A c) (n : Int) (hm1 : -9223372036854775808 ≤ n) (hm2 : n ≤ 9223372036854775807) :
    Calls Try.prog 30 #[at0 b, .int .i64 n] w (BytesOut w b A c (rBytes s n)) := by
  have HR := Lib.hid hR
  have c0 := hR.blk.cell 0
  have c1 := hR.blk.cell 1
  have c2 := hR.blk.cell 2
  have z1 := hR.blk.frozen 1
  have z2 := hR.blk.frozen 2
  have hbl := hR.blk.lt
  simp at c0 c1 c2
  have hp := hR.ok.place
  have hfit := hR.fit
  clear hR
  unfold at0
  obtain ⟨r, hr⟩ : ∃ r, r = rBytes s n := ⟨_, rfl⟩
  rw [← hr]
  unfold rBytes at hr
  by_cases he : s.e = 0
  · have d0 : (s.e != 0) = false := by simpa using he
    by_cases hn : n ≤ 0
    · have d1 : decide (n ≤ 0) = true := by simpa using hn
      rw [if_pos (.inr hn)] at hr
      have HS := Lib.hid hr
      clear hr he
      go_enter Try.func30, Try.ntmps30
      go_wp2
      go_ret
      rw [HS.out]
      exact ⟨_, rfl, ⟨rfl, .inl ⟨rfl, rfl⟩⟩, HR.out, Kept.refl _ _⟩
    have d1 : decide (n ≤ 0) = false := by simpa using hn
    rw [if_neg (by rintro (h | h) <;> contradiction)] at hr
    have hsb : IntKind.i64.wrap ((s.bs.length : Int) - (s.p : Int)) = (s.bs.length : Int) - (s.p : Int) := IntWalk.i64_in _ (by omega)
    by_cases hlt : (s.bs.length : Int) - s.p < n
    · have d2 : decide ((s.bs.length : Int) - (s.p : Int) < n) = true := by simpa using hlt
      rw [if_pos hlt] at hr
      have HS := Lib.hid hr
      clear hr he
      go_enter Try.func30, Try.ntmps30
      go_wp2
      go_quiet (fail)
      go_wp2
      go_ret
      rw [HS.out]
      exact ⟨_, rfl, ⟨rfl, .inl ⟨rfl, rfl⟩⟩, (HR.out.drewN _).put (s' := { s with e := 31 }) rfl ⟨HR.out.ok.place⟩ rfl, kept_put _ _ _ _ _⟩
    · have d2 : decide ((s.bs.length : Int) - (s.p : Int) < n) = false := by simpa using hlt
      rw [if_neg hlt] at hr
      obtain ⟨N, rfl⟩ : ∃ N : Nat, n = N := ⟨n.toNat, by omega⟩
      rw [Int.toNat_natCast] at hr
      obtain ⟨P, hP⟩ : ∃ P, P = s.p + N := ⟨_, rfl⟩
      have hPz : IntKind.i64.wrap ((s.p : Int) + (N : Int)) = (P : Int) := by rw [IntWalk.i64_in _ (by omega)]; omega
      have hPl : P ≤ s.bs.length := by omega
      have s3 : ∀ w, (Instr.slice 23 (.slice A s.bs.length c) (some (.int .i64 s.p)) (some (.int .i64 P)) none).run Try.prog w = .ok (.slice (cutAddr A s.p c) N (c - s.p)) w := fun w => by
        have h := slice_both w A s.bs.length c s.p P (by omega) (Nat.le_trans hPl HR.out.cap)
        rw [h, show P - s.p = N by omega]
      have hsub := HR.out.bytes.sub HR.out.cap s.p P (by omega) hPl
      rw [hP, drop_take', Nat.add_sub_cancel_left] at hsub
      have HSUB := Lib.hid hsub
      rw [← hP] at hr
      have hok : Rd.Ok { s with p := P } := ⟨by simp only; omega⟩
      have HS := Lib.hid hr
      have HOK := Lib.hid hok
      have hNl : N ≤ 1099511627776 := by omega
      have HLN : Hid (((s.bs.drop s.p).take N).length = N) := Lib.hid (by simp; omega)
      obtain ⟨i0, hi, hz0, hz1, hz2⟩ := info_parts byteInfo
      clear hr he hsub hP hok
      go_enter Try.func30, Try.ntmps30
      go_wp2
      go_quiet (fail)
      go_wp2_with fail
      refine wp_at ?_
      intro W hW
      have k0 : W.cell? ⟨b, 0, none⟩ = some (.slice A s.bs.length c) := by rw [hW]; exact c0
      have k1 : W.cell? ⟨b, 1, none⟩ = some (.int .i64 s.p) := by rw [hW]; exact c1
      have kk : Kept (fun i => i = b) w W := by rw [hW]; exact (Kept.refl _ w).drewN _
      have KK := Lib.hid kk
      have hWl : b < W.heap.size := Nat.lt_of_lt_of_le hbl kk.size
      have m0 : (W.alloc (.cells #[] 5)).cell? ⟨b, 0, none⟩ = some (.slice A s.bs.length c) := (World.cell?_of_block (Below.heap_alloc _ _ _ hWl)).trans k0
      have m1 : (W.alloc (.cells #[] 5)).cell? ⟨b, 1, none⟩ = some (.int .i64 s.p) := (World.cell?_of_block (Below.heap_alloc _ _ _ hWl)).trans k1
      have hsz : w.heap.size ≤ W.heap.size := kk.size
      have hown := World.ownsRow_made (base := w.heap.size) (e := 5) (size := 1) W.drew #[] 0 hsz (Nat.zero_le _) rfl
      have hin : BytesIn (W.drew.alloc (.cells #[] 5)) (cutAddr A s.p c) N ((s.bs.drop s.p).take N) := BytesIn.below (w := W.drew) (HSUB.out.keep kk (cut_apart HR.out s.p c N (by omega))).drew ((Below.refl _ _).alloc (Nat.le_refl _) _)
      have HIN := Lib.hid hin
      have hbs : W.heap[b]? = w.heap[b]? := by rw [hW]; rfl
      have BSAME : Hid (∀ w3, (W.drew.alloc (.cells #[] 5)).grownBy w3 (some W.heap.size) → w3.heap[b]? = w.heap[b]?) := Lib.hid fun w3 hg => (hg.block b (by simp; omega) (by simp; omega)).trans ((Below.heap_alloc W.drew _ b hWl).trans hbs)
      have HOWN := Lib.hid hown
      clear hW hown hin hbs c0 c1 c2 z1 z2 kk
      go_cut [5] (fun v wx => ∃ A3 cp3, v = .slice A3 N cp3 ∧ wx.ownsRow w.heap.size 5 1 (.slice A3 N cp3) N (((s.bs.drop s.p).take N).map byteV) ∧ Kept (fun i => i = b) w wx ∧ IsR3 wx b s A c)
      case first =>
        go_region_law (refine step_append_src _ rfl (.tmp 30) (.tmp 45) 23 rfl w.heap.size 5 i0 (.int .u8 0) 1 Try.underlying23 hi hz0 hz1 hz2 rfl (.slice (some ⟨W.heap.size, 0, none⟩) 0 0) 0 [] rfl HOWN.out (cutAddr A s.p c) N _ _ rfl HIN.out.2.1 (u8_one _) (by unfold maxLen; omega) (by omega) (by simp; omega) ?_; intro v' w3 hown' hg2 hloc; obtain ⟨A3, cp3, hv3⟩ := own_slice hown'; rw [hv3] at hown' ⊢; have HG2 := Lib.hid hg2; have HO2 := Lib.hid hown'; clear hg2 hown' hloc hv3)
        all_goals
          clear k0 k1 m0 m1 s3 hPz d0 d1 d2 hsb hi hz0 hz1 hz2 hm1 hm2 hp hfit hPl hNl hWl hsz
          go_wp2_with fail
          go_meet
          have hk3 := kept_fresh KK.out HG2.out
          have ho3 := HO2.out
          rw [Nat.zero_add, List.nil_append] at ho3
          exact ⟨A3, cp3, rfl, ho3, hk3, HR.out.fresh hk3 (BSAME.out _ HG2.out)⟩
      case rest =>
        obtain ⟨A3, cp3, rfl, ho, hk, hi3⟩ := hcut
        have c1 := hi3.blk.cell 1
        have z1 := hi3.blk.frozen 1
        simp at c1
        have HO3 := Lib.hid ho
        have HK3 := Lib.hid hk
        have HI3 := Lib.hid hi3
        clear ho hk hi3
        go_wp2
        go_ret
        rw [HS.out]
        refine ⟨_, rfl, ?_, HI3.out.put (s' := { s with p := P }) rfl HOK.out rfl, HK3.out.setCell (.inl rfl) _⟩
        rw [HLN.out]
        exact ownsRow_block HO3.out fun g hg => heap_setCell_other _ _ _ fun e => by
          have := (HO3.out.lt g hg).1
          simp at e
          omega
  · have d0 : (s.e != 0) = true := by simpa using he
    rw [if_pos (.inl he)] at hr
    have HS := Lib.hid hr
    clear hr he
    go_enter Try.func30, Try.ntmps30
    go_wp2
    go_ret
    rw [HS.out]
    exact ⟨_, rfl, ⟨rfl, .inl ⟨rfl, rfl⟩⟩, HR.out, Kept.refl _ _⟩
end Go.Proofs.Ytdmhaaplgkilpaa
