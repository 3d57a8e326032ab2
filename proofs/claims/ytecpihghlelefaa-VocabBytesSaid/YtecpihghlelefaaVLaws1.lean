/- VocabBuilt, walked. -/
import Derived.Test.YtecpihghlelefaaVHead
import Derived.Test.YtecpihghlelefaaVBMath2
import Derived.Deep.QuietTactic
import Derived.BigQuiet
namespace Go.Proofs.Ytecpihghlelefaa
open Go.RowKit Go.Maps Go.WideMaps
set_option linter.unusedSimpArgs false

theorem pairsIn {H : Type} {enc : TypeId × Value → H} {w : World} {A : Option Addr} {n c : Nat} {x : DataW H × List MemPlace} {fuel : Nat} {base : Nat} {spare : Nat → Bool} {held : Bool} (h : DataW.trod enc Try.prog w base spare held fuel 22 [.slice A n c] = some x) (_ : Sized 22 x.1) : ∃ l, PairsIn w A n l :=
  pairs_in Try.underlying22 (by kernel_rfl) (pair_in Try.underlying45 rfl rfl rfl (by kernel_rfl) Try.underlying3 Try.underlying3 (by kernel_rfl) (by kernel_rfl) rfl rfl) h

set_option maxHeartbeats 8000000 in
set_option maxRecDepth 100000 in
theorem vocabBuilt_any (w : World) (A : Option Addr) (n c : Nat) (l : List (Int × Int)) (hl : PairsIn w A n l) :
    Calls Try.prog 4 #[.slice A n c] w fun e w' => e = .returned (.bool true) ∧ Below w.heap.size w w' := by
  have HL := Lib.hid hl
  have hn63 : n ≤ 9223372036854775807 := hl.fit
  have hln := hl.len
  obtain ⟨V, E, hB⟩ : ∃ V E, buildAll l = (V, E) := ⟨_, _, rfl⟩
  obtain ⟨k, hk⟩ : ∃ k, V.tok.length = k := ⟨_, rfl⟩
  obtain ⟨m, hm⟩ : ∃ m, V.mer.length = m := ⟨_, rfl⟩
  have HBA := Lib.hid hB
  have HK := Lib.hid hk
  have HM := Lib.hid hm
  have HLN := Lib.hid hln
  clear hl hB hk hm hln
  go_enter Try.func4, Try.ntmps4
  go_wp2_with fail
  refine (vocabHead_any w).mono ?_
  rintro e w1 ⟨rfl, hb⟩
  have HB1 := Lib.hid hb
  have HL1 := Lib.hid (HL.out.below hb)
  clear hb
  by_cases hbig : 600 < n
  · have hbz : (600 : Int) < (n : Int) := by omega
    go_wp2
    go_ret
    exact ⟨rfl, HB1.out⟩
  have hbz : ¬ (600 : Int) < (n : Int) := by omega
  go_wp2_with fail
  refine (vBuild_is w1 A n c l HL1.out HBA.out HK.out HM.out).mono ?_
  rintro e w2 ⟨AT, BM, ca, cb, rfl, hsee, hb⟩
  have HB2 := Lib.hid (below_then HB1.out hb HB1.out.size)
  have HL2 := Lib.hid (HL1.out.below hb)
  have hb3 := (Below.refl w2.heap.size w2).alloc (Nat.le_refl _) (.cells #[.slice AT k ca, .slice BM m cb] 33)
  obtain ⟨W3, hW3⟩ : ∃ W3, W3 = w2.alloc (.cells #[.slice AT k ca, .slice BM m cb] 33) := ⟨_, rfl⟩
  have hv3 : Blk W3 w2.heap.size 33 #[.slice AT k ca, .slice BM m cb] := by rw [hW3]; exact Blk.new _ _ _
  rw [← hW3] at hb3
  have HS3 := Lib.hid (hsee.below hb3)
  have HB3 := Lib.hid (below_then HB2.out hb3 HB2.out.size)
  have HL3 := Lib.hid (HL2.out.below hb3)
  have HV3 := Lib.hid hv3
  have y0 := hv3.cell 0
  have y1 := hv3.cell 1
  simp only [List.getElem?_toArray, List.getElem?_cons_zero, List.getElem?_cons_succ] at y0 y1
  have HW3 := Lib.hid hW3
  rw [hW3] at y0 y1
  by_cases hE : E ≠ 0
  · have dE : (E != 0) = true := by simpa using hE
    have hnone := build_none l ⟨ones, []⟩ (by show (buildAll l).2 ≠ 0; rw [HBA.out]; exact hE)
    have hV0 : V = ⟨[], []⟩ := by
      have : (buildAll l).1 = ⟨[], []⟩ := hnone
      rw [HBA.out] at this
      exact this
    have hk0 : k = 0 := by rw [← HK.out, hV0]; rfl
    have hm0 : m = 0 := by rw [← HM.out, hV0]; rfl
    subst hk0 hm0
    clear hsee hb hb3 hW3 hv3 hnone hV0 hE
    go_wp2
    go_ret
    exact ⟨rfl, by have h := HB3.out; rw [HW3.out] at h; exact h⟩
  have hE0 : E = 0 := by simpa using hE
  subst hE0
  have hOk := build_ok l ⟨ones, []⟩ ones_ok (by show (buildAll l).2 = 0; rw [HBA.out])
  obtain ⟨ts, ms, hsh, hts, hms, hat⟩ := build_shape l ⟨ones, []⟩ (by show (buildAll l).2 = 0; rw [HBA.out])
  have hbv : buildV ⟨ones, []⟩ l = (V, 0) := HBA.out
  rw [hbv] at hOk hsh
  have hmer : V.mer = ms := by
    have e : (V : Voc) = ⟨ones ++ ts, [] ++ ms⟩ := hsh
    rw [e]; simp
  have htok : V.tok = ones ++ ts := by
    have e : (V : Voc) = ⟨ones ++ ts, [] ++ ms⟩ := hsh
    rw [e]
  have hmn : m = n := by rw [← HM.out, hmer, hms, HLN.out]
  subst hmn
  have hk2 : k = 256 + ts.length := by rw [← HK.out, htok, List.length_append, ones_len]
  have hkl : 256 ≤ k := by omega
  have hku : k ≤ 256 + m := by have := HLN.out; omega
  have HOK := Lib.hid hOk
  have HAT := Lib.hid hat
  have HMER := Lib.hid hmer
  have d1 : ((m : Int) != (m : Int)) = false := by simp
  have d2 : decide ((k : Int) < 256) = false := by simp; omega
  have d3 : decide ((256 : Int) + (m : Int) < (k : Int)) = false := by simp; omega
  clear hsee hb hb3 hW3 hv3 hE hOk hsh hts hms hat hbv hmer htok hk2
  go_wp2_with fail
  rw [← HW3.out]
  refine (vCheck_is W3 AT BM k m ca cb V HS3.out HOK.out.check).mono ?_
  rintro e w4 ⟨rfl, hb4⟩
  have HS4 := Lib.hid (HS3.out.below hb4)
  have HB4 := Lib.hid (below_then HB3.out hb4 HB3.out.size)
  have HL4 := Lib.hid (HL3.out.below hb4)
  have hv4 := HV3.out.below hb4 HV3.out.lt
  have y0' := hv4.cell 0
  have y1' := hv4.cell 1
  simp only [List.getElem?_toArray, List.getElem?_cons_zero, List.getElem?_cons_succ] at y0' y1'
  clear hb4 hv4 y0 y1
  go_wp2_with fail
  have HSG := Lib.hid HOK.out.single
  go_loop [6] (fun i => ∃ j : Nat, j ≤ 256 ∧ i = .int .i64 j) (fun i => 256 - (intOf i).toNat)
  case atStart => exact ⟨0, by omega, rfl⟩
  case round =>
    obtain ⟨j, hj, rfl⟩ := hrel
    rcases Nat.lt_or_ge j 256 with hlt | hge
    · have hlt' : (j : Int) < 256 := by omega
      have hjk : (j : Int) < (k : Int) := by omega
      have hx := HSG.out j hlt
      obtain ⟨x, rfl⟩ : ∃ x : UInt8, j = x.toNat := ⟨UInt8.ofNat j, by rw [UInt8.toNat_ofNat_of_lt' (by show _ < 256; omega)]⟩
      have hxx : UInt8.ofNat x.toNat = x := by simp
      rw [hxx] at hx
      obtain ⟨ad, A', c', rfl, ec, hc1, hA⟩ := HS4.out.tok.at_ x.toNat _ hx
      obtain ⟨pa, z, rfl, hz, ez⟩ := hA.at 0 (by simp)
      have hz' : z = x := by simpa using hz.symm
      subst hz'
      have ez' : w4.cell? pa = some (.int .u8 z.toNat) := by simpa [Addr.add] using ez
      have ec' : w4.cell? (ad.add z.toNat) = some (.slice (some pa) 1 c') := ec
      have hc1' : 1 ≤ c' := hc1
      clear hxx hx ec hA hz ez hc1
      go_wp2
      exact ⟨⟨z.toNat + 1, by omega, by go_num⟩, by simp [intOf]; omega⟩
    · obtain rfl : j = 256 := by omega
      have hjz : ¬ (((256 : Nat) : Int) < 256) := by omega
      clear y0'
      have y1q : ∀ q, (w4.drewN q).cell? ⟨w2.heap.size, 1, none⟩ = some (.slice BM m cb) := fun _ => y1'
      go_wp2_with fail
      go_loopw [7] (fun i wr => ∃ (j q : Nat), j ≤ m ∧ i = .int .i64 j ∧ wr = w4.drewN q) (fun i _ => m - (intOf i).toNat)
      case atStart => exact ⟨0, 0, Nat.zero_le _, rfl, rfl⟩
      case round =>
        obtain ⟨j, q, hj, rfl, rfl⟩ := hrel
        rcases Nat.lt_or_ge j m with hlt | hge
        · have hlt' : (j : Int) < (m : Int) := by omega
          have hj0 : (0 : Int) ≤ (j : Int) := by omega
          obtain ⟨pa, p, rfl, hp, c0, c1, -, -⟩ := HL4.out.at j hlt
          obtain ⟨t, ht⟩ := HAT.out j p hp
          rw [← HMER.out] at ht
          obtain ⟨bd, rfl, ea, eb, -⟩ := HS4.out.mer.at_ j _ ht
          obtain ⟨x, y⟩ := p
          simp only at c0 c1 ea eb
          have c0q : ∀ r, (w4.drewN r).cell? (pa.add (j * 2)) = some (.int .i64 x) := fun _ => c0
          have c1q : ∀ r, (w4.drewN r).cell? ⟨(pa.add (j * 2)).block, (pa.add (j * 2)).off + 1, none⟩ = some (.int .i64 y) := fun _ => c1
          have eaq : ∀ r, (w4.drewN r).cell? (bd.add (j * 3)) = some (.int .i64 x) := fun _ => ea
          have ebq : ∀ r, (w4.drewN r).cell? ⟨(bd.add (j * 3)).block, (bd.add (j * 3)).off + 1, none⟩ = some (.int .i64 y) := fun _ => eb
          have d5 : (x != x) = false := by simp
          have d6 : (y != y) = false := by simp
          clear hp ht c0 c1 ea eb y1'
          go_wp2_with fail
          go_quiet (fail)
          go_wp2
          exact ⟨⟨j + 1, _, by omega, by go_num, rfl⟩, by simp [intOf]; omega⟩
        · obtain rfl : j = m := by omega
          have hjz2 : ¬ ((j : Int) < (j : Int)) := by omega
          go_wp2
          go_ret
          exact ⟨rfl, below_drewN HB4.out _⟩
end Go.Proofs.Ytecpihghlelefaa
