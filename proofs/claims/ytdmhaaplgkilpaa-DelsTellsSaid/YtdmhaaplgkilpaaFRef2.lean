/- The contract of the document's frame: Get. -/
import Derived.Test.YtdmhaaplgkilpaaFRef1
namespace Go.Proofs.Ytdmhaaplgkilpaa
open Go.RowKit Go.Maps Go.WideMaps

/-- What Get leaves. -/
def GetFOut (w : World) (g : List UInt8 × Nat × Int) (e : Ending) (w' : World) : Prop :=
  ∃ v, e = .returned (.tuple #[v, .int .i64 g.2.1, .int .i64 g.2.2]) ∧ w'.ownsRow w.heap.size 5 1 v g.1.length (g.1.map byteV) ∧ Below w.heap.size w w'
theorem gferr {w w' : World} {g : List UInt8 × Nat × Int} {e : Int} (h : g = ([], 0, e)) (hb : Below w.heap.size w w') : GetFOut w g (.returned (.tuple #[.slice none 0 0, .int .i64 0, .int .i64 e])) w' := by
  subst h
  exact ⟨_, rfl, ⟨rfl, .inl ⟨rfl, rfl⟩⟩, hb⟩
theorem gfok {w w' : World} {g : List UInt8 × Nat × Int} {x : List UInt8} {m : Nat} {v : Value} (h : g = (x, m, 0)) (hb : Below w.heap.size w w') (ho : w'.ownsRow w.heap.size 5 1 v x.length (x.map byteV)) : GetFOut w g (.returned (.tuple #[v, .int .i64 m, .int .i64 0])) w' := by
  subst h
  exact ⟨v, rfl, ho, hb⟩

theorem or4 (a b c d : UInt8) : bits .or .u32 (bits .or .u32 (bits .or .u32 (a.toNat : Int) ((b.toNat : Int) * 256)) ((c.toNat : Int) * 65536)) ((d.toNat : Int) * 16777216) = ((a.toNat + 256 * b.toNat + 65536 * c.toNat + 16777216 * d.toNat : Nat) : Int) := by
  have h0 := a.toNat_lt
  have h1 := b.toNat_lt
  have h2 := c.toNat_lt
  have h3 := d.toNat_lt
  rw [show (b.toNat : Int) * 256 = ((b.toNat * 256 : Nat) : Int) by omega, show (c.toNat : Int) * 65536 = ((c.toNat * 65536 : Nat) : Int) by omega, show (d.toNat : Int) * 16777216 = ((d.toNat * 16777216 : Nat) : Int) by omega]
  have e1 : a.toNat ||| b.toNat * 256 = a.toNat + b.toNat * 256 := by
    rw [Nat.or_comm, nat_join 8 _ _ (by omega) (by omega), Nat.add_comm]
  rw [u32_or_nat _ _ (by omega) (by omega), e1]
  have e2 : (a.toNat + b.toNat * 256) ||| c.toNat * 65536 = a.toNat + b.toNat * 256 + c.toNat * 65536 := by
    rw [Nat.or_comm, nat_join 16 _ _ (by omega) (by omega), Nat.add_comm]
  rw [u32_or_nat _ _ (by omega) (by omega), e2]
  have e3 : (a.toNat + b.toNat * 256 + c.toNat * 65536) ||| d.toNat * 16777216 = a.toNat + b.toNat * 256 + c.toNat * 65536 + d.toNat * 16777216 := by
    rw [Nat.or_comm, nat_join 24 _ _ (by omega) (by omega), Nat.add_comm]
  rw [u32_or_nat _ _ (by omega) (by omega), e3]
  congr 1
  omega
theorem un4_at {l : List UInt8} {k : Nat} {a b c d : UInt8} (h0 : l[k]? = some a) (h1 : l[k + 1]? = some b) (h2 : l[k + 2]? = some c) (h3 : l[k + 3]? = some d) : un4 (l.drop k) = a.toNat + 256 * b.toNat + 65536 * c.toNat + 16777216 * d.toNat := by
  unfold un4
  simp only [List.getD_eq_getElem?_getD, List.getElem?_drop, Nat.add_zero, h0, h1, h2, h3, Option.getD_some]

set_option maxHeartbeats 4000000 in
set_option maxRecDepth 100000 in
theorem r4Get_any (w : World) (A : Option Addr) (n c : Nat) (l : Nm) (hl : BytesIn w A n l) (hc : n ≤ c) (hn : n ≤ 1099511627776) :
    Calls Try.prog 41 #[.slice A n c] w (GetFOut w (getF l)) := by
  obtain ⟨i0, hi, hz0, hz1, hz2⟩ := info_parts byteInfo
  have HL := Lib.hid hl
  have hln : l.length = n := by have := hl.2.1.len; simpa using this
  have HLN := Lib.hid hln
  clear hl hln
  obtain ⟨N, k, e, hg⟩ : ∃ N k e, getL l = (N, k, e) := ⟨_, _, _, rfl⟩
  obtain ⟨G, hG⟩ : ∃ G, G = getF l := ⟨_, rfl⟩
  rw [← hG]
  unfold getF at hG
  rw [hg] at hG
  simp only at hG
  have HGG := Lib.hid hg
  by_cases he : e = 0
  · subst he
    obtain ⟨g1, g2, g3, g4, g5⟩ := getL_inv hg
    rw [HLN.out] at g3
    rw [if_neg (by simp)] at hG
    clear hg g4
    by_cases hbig : 262144 < N
    · have hbz : (262144 : Int) < (N : Int) := by omega
      rw [if_pos hbig] at hG
      have HG := Lib.hid hG
      clear hG
      go_enter Try.func41, Try.ntmps41
      go_wp2_with fail
      refine (r3Get_is w A n c l HL.out HGG.out).mono ?_
      rintro e2 w2 ⟨rfl, hw⟩
      rw [hw]
      clear hw
      go_wp2
      go_ret3
      exact gferr HG.out (Below.refl _ _)
    have hbz : ¬ (262144 : Int) < (N : Int) := by omega
    rw [if_neg hbig] at hG
    obtain ⟨E, hE⟩ : ∃ E, E = k + 4 + N := ⟨_, rfl⟩
    have hK4 : IntKind.i64.wrap ((k : Int) + 4) = (k : Int) + 4 := IntWalk.i64_in _ (by omega)
    have hNz : IntKind.i64.wrap (N : Int) = (N : Int) := IntWalk.i64_in _ (by omega)
    have hEz : IntKind.i64.wrap ((k : Int) + 4 + (N : Int)) = (E : Int) := by rw [IntWalk.i64_in _ (by omega)]; omega
    rw [← hE, HLN.out] at hG
    by_cases hend : n < E
    · have hendz : (n : Int) < (E : Int) := by omega
      rw [if_pos hend] at hG
      have HG := Lib.hid hG
      clear hG hE
      go_enter Try.func41, Try.ntmps41
      go_wp2_with fail
      refine (r3Get_is w A n c l HL.out HGG.out).mono ?_
      rintro e2 w2 ⟨rfl, hw⟩
      rw [hw]
      clear hw
      go_wp2
      go_ret3
      exact gferr HG.out (Below.refl _ _)
    have hendz : ¬ (n : Int) < (E : Int) := by omega
    rw [if_neg hend] at hG
    obtain ⟨K4, hK4'⟩ : ∃ K, K = k + 4 := ⟨_, rfl⟩
    have e4 : (k : Int) + 4 = (K4 : Int) := by omega
    have e5 : (K4 : Int) + (N : Int) = (E : Int) := by omega
    obtain ⟨p0, y0, hA, hy0, cy0⟩ := HL.out.at k (by omega)
    subst hA
    obtain ⟨_, y1, hA, hy1, cy1⟩ := HL.out.at (k + 1) (by omega)
    cases hA
    obtain ⟨_, y2, hA, hy2, cy2⟩ := HL.out.at (k + 2) (by omega)
    cases hA
    obtain ⟨_, y3, hA, hy3, cy3⟩ := HL.out.at (k + 3) (by omega)
    cases hA
    have Y0 := Lib.hid hy0
    have Y1 := Lib.hid hy1
    have Y2 := Lib.hid hy2
    have Y3 := Lib.hid hy3
    have cz1 : w.cell? ⟨p0.block, p0.off + (k + 1), none⟩ = some (.int .u8 y1.toNat) := by simpa [Addr.add] using cy1
    have cz2 : w.cell? ⟨p0.block, p0.off + (k + 2), none⟩ = some (.int .u8 y2.toNat) := by simpa [Addr.add] using cy2
    have cz3 : w.cell? ⟨p0.block, p0.off + (k + 3), none⟩ = some (.int .u8 y3.toNat) := by simpa [Addr.add] using cy3
    clear hy0 hy1 hy2 hy3 cy1 cy2 cy3
    have b0 := y0.toNat_lt
    have b1 := y1.toNat_lt
    have b2 := y2.toNat_lt
    have b3 := y3.toNat_lt
    have hK1 : (k : Int) + 1 < (n : Int) := by omega
    have hK2 : (k : Int) + 2 < (n : Int) := by omega
    have hK3 : (k : Int) + 3 < (n : Int) := by omega
    have hK0 : (k : Int) < (n : Int) := by omega
    have w1 : IntKind.i64.wrap ((k : Int) + 1) = (k : Int) + 1 := IntWalk.i64_in _ (by omega)
    have w2' : IntKind.i64.wrap ((k : Int) + 2) = (k : Int) + 2 := IntWalk.i64_in _ (by omega)
    have w3' : IntKind.i64.wrap ((k : Int) + 3) = (k : Int) + 3 := IntWalk.i64_in _ (by omega)
    have HG := Lib.hid hG
    clear hG hE hK4'
    go_enter Try.func41, Try.ntmps41
    go_wp2_with fail
    refine (r3Get_is w (some p0) n c l HL.out HGG.out).mono ?_
    rintro e2 w2 ⟨rfl, hw⟩
    rw [hw]
    clear hw
    go_wp2_with fail
    go_quiet (fail)
    obtain ⟨U, hU⟩ : ∃ U, U = un4 (l.drop k) := ⟨_, rfl⟩
    have hun : bits .or .u32 (bits .or .u32 (bits .or .u32 (y0.toNat : Int) ((y1.toNat : Int) * 256)) ((y2.toNat : Int) * 65536)) ((y3.toNat : Int) * 16777216) = (U : Int) := by
      rw [hU, or4 y0 y1 y2 y3, un4_at Y0.out Y1.out Y2.out Y3.out]
    rw [hun]
    rw [← hU] at HG
    clear hun hU cy0 cz1 cz2 cz3
    obtain ⟨x, hx⟩ : ∃ x, x = (l.drop (k + 4)).take N := ⟨_, rfl⟩
    have s3 : ∀ w, (Instr.slice 23 (.slice (some p0) n c) (some (.int .i64 K4)) (some (.int .i64 E)) none).run Try.prog w = .ok (.slice (cutAddr (some p0) K4 c) N (c - K4)) w := fun w => by
      have h := slice_both w (some p0) n c K4 E (by omega) (by omega)
      rw [h, show E - K4 = N by omega]
    have hsub := HL.out.sub hc K4 E (by omega) (by omega)
    rw [show E = K4 + N by omega, drop_take', Nat.add_sub_cancel_left, show K4 = k + 4 by omega, ← hx, show k + 4 = K4 by omega] at hsub
    have HSUB := Lib.hid hsub
    rw [← hx] at HG
    have HXN : Hid (x.length = N) := Lib.hid (by rw [hx]; simp; have := HLN.out; omega)
    have hNl : N ≤ 262144 := by omega
    clear hsub hx
    obtain ⟨W, hW⟩ : ∃ W, W = w.drewN nq := ⟨_, rfl⟩
    rw [← hW]
    have hbW : Below w.heap.size w W := by rw [hW]; exact below_drewN (Below.refl _ _) _
    have BW := Lib.hid hbW
    have HSW := Lib.hid ((HSUB.out.below hbW).below ((Below.refl _ W).alloc (Nat.le_refl _) (.cells #[] 5)))
    clear hW hbW
    go_wp2_with (at_builtin; refine wpList_append_src _ rfl (.tmp 60) (.tmp 65) 23 rfl w.heap.size 5 i0 (.int .u8 0) 1 Try.underlying23 hi hz0 hz1 hz2 rfl _ 0 [] rfl (World.ownsRow_made W #[] 0 BW.out.size (Nat.zero_le _) rfl) (cutAddr (some p0) K4 c) N _ _ rfl HSW.out.2.1 (u8_one x) (by unfold maxLen; omega) (by omega) (by have := BW.out.size; simp; omega) ?_; intro v3 w3 hown hgrow _; obtain ⟨A3, c3, hv3⟩ := own_slice hown; subst hv3; rw [Nat.zero_add, List.nil_append] at hown; have HO3 := Lib.hid hown; have B3 : Hid (Below w.heap.size w w3) := Lib.hid ((BW.out.alloc BW.out.size _).grown hgrow (by have := BW.out.size; simp; omega) (fun g hg => by cases hg; exact BW.out.size)); clear hown hgrow)
    refine (refSum_any w3 A3 N c3 x (BytesIn.own HO3.out (by unfold maxLen; omega))).mono ?_
    rintro e4' w4 ⟨rfl, hb⟩
    have B4 := Lib.hid (below_then B3.out hb B3.out.size)
    have O4 := Lib.hid (ownsRow_block HO3.out (w' := w4) fun g hg => hb.block g (HO3.out.lt g hg).2)
    clear hb
    by_cases hsum : sumN x = U
    · have d0 : (((sumN x : Nat) : Int) != (U : Int)) = false := by rw [hsum]; simp
      have hG := HG.out
      rw [if_neg (by simpa using hsum)] at hG
      have HG2 := Lib.hid hG
      clear hG
      go_wp2
      go_ret3
      exact gfok HG2.out B4.out (by rw [HXN.out]; exact O4.out)
    · have d0 : (((sumN x : Nat) : Int) != (U : Int)) = true := by simpa using fun e => hsum (by omega)
      have hG := HG.out
      rw [if_pos (by simpa using hsum)] at hG
      have HG2 := Lib.hid hG
      clear hG hsum
      go_wp2
      go_ret3
      exact gferr HG2.out B4.out
  · rw [if_pos he] at hG
    have HG := Lib.hid hG
    clear hG hg
    have d1 : (e != 0) = true := by simpa using he
    go_enter Try.func41, Try.ntmps41
    go_wp2_with fail
    refine (r3Get_is w A n c l HL.out HGG.out).mono ?_
    rintro e2 w2 ⟨rfl, hw⟩
    rw [hw]
    clear hw
    go_wp2
    go_ret3
    exact gferr HG.out (Below.refl _ _)
end Go.Proofs.Ytdmhaaplgkilpaa
