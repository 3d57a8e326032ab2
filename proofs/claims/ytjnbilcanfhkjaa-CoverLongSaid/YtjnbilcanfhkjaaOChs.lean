/- The contract of the landed Chances. -/
import Derived.Test.YtjnbilcanfhkjaaOShift
namespace Go.Proofs.Ytjnbilcanfhkjaa
open Go.RowKit Go.Maps Go.WideMaps

/-- One token's offsets are its shifts, moved. -/
theorem chUp_sh (L : List Nm) (s : Nm) (l : List Int) (k : Nat) : chUp L s l (k + 1) = chUp L s l k ++ (shOf (tokI L (l.getD k 0)) s).map fun j => ((textUp L l k).length : Int) + j := by
  simp only [chUp]
  rw [alT_map, List.map_map]
  rfl
theorem shOf_len (x s : Nm) : (shOf x s).length ≤ x.length := by
  unfold shOf
  rw [List.length_map]
  exact alT_len _ _ _ _
theorem shOf_at {x s : Nm} {q : Nat} {y : Int} (h : (shOf x s)[q]? = some y) : 0 ≤ y ∧ y < x.length := by
  obtain ⟨j, rfl, h1, _⟩ := shOf_mem.1 (List.mem_of_getElem? h)
  omega

/-- A row of one's own begins no lower than any number below. -/
theorem rowBase_le {w : World} {base base' : Nat} {e : TypeId} {size n : Nat} {v : Value} {xs : List Value} (h : w.ownsRow base e size v n xs) (hb : base' ≤ base) : w.ownsRow base' e size v n xs :=
  ⟨h.1, h.2.imp id fun ⟨g, cap, cur, h1, h2, h3⟩ => ⟨g, cap, cur, h1, Nat.le_trans hb h2, h3⟩⟩

set_option maxHeartbeats 8000000 in
set_option maxRecDepth 100000 in
theorem pchances_any {w : World} {b : Nat} {L : List Nm} (hC : CovAt w b L) (hr : rightB L = true) (B C : Option Addr) (m p cb cp : Nat) (s : Nm) (l : List Int) (hs : BytesIn w B m s) (hl : IntsIn w C p l) (hmc : m ≤ cb) (hm3 : m ≤ 30000) (hp5 : p ≤ 500) :
    Calls Try.prog 16 #[.pointer (some ⟨b, 0, none⟩), .slice B m cb, .slice C p cp] w (IdxOut w (chUp L s l p)) := by
  obtain ⟨i0, hi, hz0, hz1, hz2⟩ := info_parts intInfoI
  have HSH := Lib.hid (shifts_any hC hr B m cb s hs hmc hm3)
  have HL := Lib.hid hl
  have HC := Lib.hid hC
  have HR := Lib.hid hr
  have hp63 : p ≤ 9223372036854775807 := hl.1
  clear hs hl hC hr
  go_enter Try.func16, Try.ntmps16
  go_wp2_with fail
  refine HSH.out.mono ?_
  rintro e w1 ⟨n, D, G, rfl, hb1, hg, hG, hn, hS⟩
  have HL1 := Lib.hid (HL.out.below hb1)
  have HC1 := Lib.hid (HC.out.below hb1)
  have HB1 := Lib.hid hb1
  have HG := Lib.hid hg
  have HGF := Lib.hid hG
  have HS := Lib.hid hS
  have HSZ : Hid (w.heap.size ≤ w1.heap.size) := Lib.hid hb1.size
  clear hb1 hg hG hS
  go_wp2
  go_loopw [7, 9, 19] (fun v o i wr => ∃ k : Nat, k ≤ p ∧ i = .int .i64 k ∧ o = .int .i64 (textUp L l k).length ∧ wr.ownsRow w1.heap.size 3 1 v (chUp L s l k).length ((chUp L s l k).map i64V) ∧ Below w1.heap.size w1 wr) (fun _ _ i _ => p - (Go.RowKit.intOf i).toNat)
  case atStart => exact ⟨0, by omega, rfl, rfl, ⟨rfl, .inl ⟨rfl, rfl⟩⟩, Below.refl _ _⟩
  case round =>
    obtain ⟨k, hk, rfl, rfl, hO, hB⟩ := hrel
    have HO := Lib.hid hO
    have HB := Lib.hid hB
    clear hO hB
    rcases Nat.lt_or_ge k p with hlt | hge
    · have hlt' : (k : Int) < (p : Int) := by omega
      have p0 : (0 : Int) ≤ (k : Int) := by omega
      obtain ⟨pc, t, rfl, hii, ec, hb1, hb2⟩ := (HL1.out.below HB.out).at k hlt
      have ht64 : fits64 t := by unfold fits64; omega
      have hw5 : IntKind.i64.wrap ((k : Int) + 1) = (k : Int) + 1 := IntWalk.i64_in _ (by omega)
      have hgd : l.getD k 0 = t := by rw [List.getD_eq_getElem?_getD, hii]; rfl
      have hcy := chUp_sh L s l k
      have htu : (textUp L l (k + 1)).length = (textUp L l k).length + (tokI L t).length := by simp only [textUp, hgd, List.length_append]
      rw [hgd] at hcy
      have hto := right_text HR.out l (k + 1)
      have htl := right_tok HR.out t
      have hcl := chUp_len L s l k
      obtain ⟨x, hx⟩ : ∃ x, x = tokI L t := ⟨_, rfl⟩
      obtain ⟨o, ho⟩ : ∃ o, o = (textUp L l k).length := ⟨_, rfl⟩
      obtain ⟨P, hP⟩ : ∃ P, P = chUp L s l k := ⟨_, rfl⟩
      obtain ⟨f, hf⟩ : ∃ f, f = shOf x s := ⟨_, rfl⟩
      rw [← hx] at hcy htu htl
      rw [← ho] at hcy htu hcl
      rw [← hP] at HO hcy hcl
      rw [← hf] at hcy
      have hfl : f.length ≤ x.length := by rw [hf]; exact shOf_len _ _
      have HFA := Lib.hid (fun q y h => by rw [hf] at h; exact shOf_at h : ∀ (q : Nat) (y : Int), f[q]? = some y → 0 ≤ y ∧ y < x.length)
      obtain ⟨A, c, hlook, hin, hAG⟩ := HS.out.look (HG.out.below HB.out) (by unfold maxLen; omega) ht64
      simp only [← hx, ← hf] at hlook hin
      have HIN := Lib.hid hin
      have HAG := Lib.hid (fun ad e => HGF.out _ (hAG ad e) : ∀ ad, A = some ad → ad.block < w1.heap.size)
      have HSZ' := Lib.hid (size_any (HC1.out.below HB.out) t)
      have HX := Lib.hid hx
      have hox : o + x.length ≤ 16 * (k + 1) := by omega
      have hPo : P.length ≤ o := hcl
      have HCY := Lib.hid hcy
      have HTU := Lib.hid htu
      have HT64 := Lib.hid ht64
      rw [← ho]
      clear hii hgd hcy htu hto hx ho hP hf hin hAG hcl ht64
      go_wp2
      clear hlook
      go_loopw [7, 27] (fun v j wi => ∃ q : Nat, q ≤ f.length ∧ j = .int .i64 q ∧ wi.ownsRow w1.heap.size 3 1 v (P ++ (f.take q).map fun j => (o : Int) + j).length ((P ++ (f.take q).map fun j => (o : Int) + j).map i64V) ∧ Below w1.heap.size w1 wi) (fun _ j _ => f.length - (Go.RowKit.intOf j).toNat)
      case atStart => exact ⟨0, by omega, rfl, by simpa using HO.out, HB.out⟩
      case round =>
        obtain ⟨q, hq, rfl, hO2, hB2⟩ := hrel
        have HO2 := Lib.hid hO2
        have HB2 := Lib.hid hB2
        clear hO2 hB2
        rcases Nat.lt_or_ge q f.length with hlt2 | hge2
        · have hlq : (q : Int) < (f.length : Int) := by omega
          have q0 : (0 : Int) ≤ (q : Int) := by omega
          obtain ⟨pa, y, rfl, hy, ey, hy1, hy2⟩ := (HIN.out.across HAG.out HB.out HB2.out).at q hlt2
          have hyx := HFA.out q y hy
          have hw6 : IntKind.i64.wrap ((q : Int) + 1) = (q : Int) + 1 := IntWalk.i64_in _ (by omega)
          have hw7 : IntKind.i64.wrap ((o : Int) + y) = (o : Int) + y := IntWalk.i64_in _ (by omega)
          obtain ⟨Av, cv, hv⟩ := own_slice HO2.out
          subst hv
          obtain ⟨M, hM⟩ : ∃ M, M = P ++ (f.take q).map fun j => (o : Int) + j := ⟨_, rfl⟩
          have hML : M.length ≤ 1048576 := by
            rw [hM, List.length_append, List.length_map, List.length_take]
            omega
          have HNX := Lib.hid (by rw [hM, List.take_add_one, hy]; simp : P ++ (f.take (q + 1)).map (fun j => (o : Int) + j) = M ++ [(o : Int) + y])
          rw [← hM] at HO2 ⊢
          clear hM hy hy1 hy2
          go_wp2_with (at_builtin; refine wpList_append_src _ rfl (.tmp 31) (.tmp 35) 24 rfl w1.heap.size 3 i0 (.int .i64 0) 8 Try.underlying24 hi hz0 hz1 hz2 rfl _ M.length _ rfl (World.ownsRow.alloc HO2.out _) _ 1 1 _ rfl (one_int_src _ 3 ((o : Int) + y)) (i64V_one [(o : Int) + y]) (by unfold maxLen; omega) (by omega) (by have := HB2.out.size; simp; omega) ?_; intro v3 w3 hown hgrow _; have HO4 := Lib.hid hown; have HB4 := Lib.hid ((HB2.out.alloc HB2.out.size _).grown hgrow (by have := HB2.out.size; simp; omega) (fun g hg => (HO2.out.lt g hg).1)); clear hown hgrow)
          go_roundw
          case rel =>
            refine ⟨q + 1, by omega, by go_num, ?_, HB4.out⟩
            rw [HNX.out, List.length_append, List.map_append]
            exact HO4.out
          case measure => simp [Go.RowKit.intOf]; omega
        · obtain rfl : q = f.length := by omega
          have hlz : ¬ ((f.length : Int) < (f.length : Int)) := by omega
          have hw7 : IntKind.i64.wrap ((o : Int) + (x.length : Int)) = ((o + x.length : Nat) : Int) := by rw [IntWalk.i64_in _ (by omega)]; push_cast; rfl
          have HSC := Lib.hid (size_any (HC1.out.below HB2.out) t)
          rw [← HX.out] at HSC
          go_wp2_with fail
          refine HSC.out.mono ?_
          rintro e3 w3 ⟨rfl, rfl⟩
          go_wp2
          refine ⟨⟨k + 1, by omega, by go_num, by rw [HTU.out]; push_cast; rfl, ?_, HB2.out⟩, by simp [Go.RowKit.intOf]; omega⟩
          rw [HCY.out]
          rw [List.take_length] at HO2
          exact HO2.out
    · obtain rfl : k = p := by omega
      have hlz : ¬ ((k : Int) < (k : Int)) := by omega
      go_wp2
      go_ret
      exact ⟨_, rfl, rowBase_le HO.out HSZ.out, below_then HB1.out HB.out HSZ.out⟩
end Go.Proofs.Ytjnbilcanfhkjaa
