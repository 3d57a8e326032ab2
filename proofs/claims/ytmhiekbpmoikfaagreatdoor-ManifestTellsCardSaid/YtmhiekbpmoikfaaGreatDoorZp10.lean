/- References of a manifest in memory, to read; the document's known. Manifests: bytes there and back. strconv.FormatInt at base 10, out of the library's contracts; the names of files, the document's. The document's Names: the files of a manifest, and itself. References in a row of one's own. References of one's own, in a row that may be pushed; a manifest that grows in memory. The closure of the landed Put: numbers, one behind the other. (Printed by mk/mqput1.py.) What the program's Check asks, in plain words: it is the document's. Is a number there twice: sorted, compacted, shorter. The program's Check. The program's Check, whole. What Put, Get and Load give. The program's Put. What the program's reader makes of bytes, in its own order: it is the document's. Two references, whether equal; the document's Same. -/
import Derived.Test.YtmhiekbpmoikfaaGreatDoorZp1
import Derived.BigQuiet
import Derived.Test.YtmhiekbpmoikfaaGreatDoorForm
import Derived.Lib.AppendIntMem
import Derived.Lib.ItoaLen
import Derived.Lib.SmallJoins
import Derived.Sort.EncStr
import Derived.Deep.DeepCutAuto
import Derived.Laws.ResultCell
import Derived.Test.YtmhiekbpmoikfaaGreatDoorZp2
import Derived.Deep.RegionHeld3
import Derived.Test.YtmhiekbpmoikfaaGreatDoorLay
import Derived.Lib.SlicesCompact
import Derived.Deep.QuietTactic
import Derived.Laws.StructEq
namespace Go.Proofs.YtmhiekbpmoikfaaGreatDoor
open Go.RowKit Go.Maps Go.WideMaps
set_option linter.unusedSimpArgs false

def rfBound (r : Rf) : Prop := fits64 r.num ∧ fits64 r.docs ∧ fits64 r.level ∧ fits64 r.dels
/-- A slice of references, to read. -/
structure RefsIn (w : World) (A : Option Addr) (n : Nat) (L : List Rf) : Prop where
  len : L.length = n
  fit : n ≤ maxLen
  nil : A = none → n = 0
  at_ : ∀ (k : Nat) (r : Rf), L[k]? = some r → ∃ ad, A = some ad ∧ ad.block < w.heap.size ∧ w.cell? (ad.add (k * 4)) = some (.int .i64 r.num) ∧ w.cell? ⟨(ad.add (k * 4)).block, (ad.add (k * 4)).off + 1, none⟩ = some (.int .i64 r.docs) ∧ w.cell? ⟨(ad.add (k * 4)).block, (ad.add (k * 4)).off + 2, none⟩ = some (.int .i64 r.level) ∧ w.cell? ⟨(ad.add (k * 4)).block, (ad.add (k * 4)).off + 3, none⟩ = some (.int .i64 r.dels) ∧ rfBound r
theorem addBlock (ad : Addr) (k : Nat) : (ad.add k).block = ad.block := by unfold Addr.add; split <;> rfl
theorem RefsIn.keep {w w' : World} {A : Option Addr} {n : Nat} {L : List Rf} (h : RefsIn w A n L) (hb : ∀ ad, A = some ad → 0 < n → w'.heap[ad.block]? = w.heap[ad.block]?) (hs : w.heap.size ≤ w'.heap.size) : RefsIn w' A n L :=
  ⟨h.len, h.fit, h.nil, fun k r hr => by
    obtain ⟨ad, e, hl, c0, c1, c2, c3, hf⟩ := h.at_ k r hr
    have hn : 0 < n := by have := (List.getElem?_eq_some_iff.1 hr).1; have := h.len; omega
    have hk := hb ad e hn
    have hc : ∀ a : Addr, a.block = ad.block → w'.cell? a = w.cell? a := fun a ha => World.cell?_of_block (by rw [ha]; exact hk)
    exact ⟨ad, e, Nat.lt_of_lt_of_le hl hs, (hc (ad.add (k * 4)) (addBlock ad _)).trans c0, (hc ⟨(ad.add (k * 4)).block, _, none⟩ (addBlock ad _)).trans c1, (hc ⟨(ad.add (k * 4)).block, _, none⟩ (addBlock ad _)).trans c2, (hc ⟨(ad.add (k * 4)).block, _, none⟩ (addBlock ad _)).trans c3, hf⟩⟩
theorem RefsIn.below {w w' : World} {A : Option Addr} {n : Nat} {L : List Rf} (h : RefsIn w A n L) (hb : Below w.heap.size w w') : RefsIn w' A n L :=
  ⟨h.len, h.fit, h.nil, fun k r hr => by
    obtain ⟨ad, e, hl, c0, c1, c2, c3, hf⟩ := h.at_ k r hr
    have hc : ∀ a : Addr, a.block = ad.block → w'.cell? a = w.cell? a := fun a ha => World.cell?_of_block (by rw [ha]; exact hb.block _ hl)
    exact ⟨ad, e, Nat.lt_of_lt_of_le hl hb.size, (hc (ad.add (k * 4)) (addBlock ad _)).trans c0, (hc ⟨(ad.add (k * 4)).block, _, none⟩ (addBlock ad _)).trans c1, (hc ⟨(ad.add (k * 4)).block, _, none⟩ (addBlock ad _)).trans c2, (hc ⟨(ad.add (k * 4)).block, _, none⟩ (addBlock ad _)).trans c3, hf⟩⟩
theorem RefsIn.upto {w : World} {A : Option Addr} {n : Nat} {L : List Rf} (h : RefsIn w A n L) {i : Nat} (hi : i ≤ n) : RefsIn w A i (L.take i) :=
  ⟨by rw [List.length_take, h.len]; omega, Nat.le_trans hi h.fit, fun e => by have := h.nil e; omega, fun k r hr => by
    rw [List.getElem?_take] at hr
    split at hr
    · exact h.at_ k r hr
    · cases hr⟩
set_option maxRecDepth 100000 in
theorem refs_to (w : World) (A : Option Addr) (n c p : Nat) (h : p ≤ c) : (Instr.slice 22 (.slice A n c) none (some (.int .i64 p)) none).run Tryz.prog w = .ok (.slice A p c) w := by
  rw [run_slice_h (P := Tryz.prog) (w := w) 22 A n c Tryz.underlying22 .i64 p (by omega) (by omega)]
  have hs : (sizeOf (Tryz.prog.elem 22)).run Tryz.prog w = .ok 4 w := by kernel_rfl
  rw [hs]
  cases A <;> simp [Result.andThen, sliced, Addr.add]
theorem knownL_step (L : List Rf) (n : Int) {k : Nat} {r : Rf} (h : L[k]? = some r) : knownL (L.take (k + 1)) n = (knownL (L.take k) n || ((r.num == n) || (r.dels == n))) := by
  unfold knownL
  rw [List.take_add_one, h, List.any_append]
  simp

set_option maxHeartbeats 4000000 in
set_option maxRecDepth 100000 in
theorem r15known_any (w : World) (A : Option Addr) (n c : Nat) (L : List Rf) (h : RefsIn w A n L) (x : Int) :
    Calls Tryz.prog 68 #[.slice A n c, .int .i64 x] w fun e w' => e = .returned (.bool (knownL L x)) ∧ w' = w := by
  have HI := Lib.hid h
  have hn63 := h.fit
  unfold maxLen at hn63
  clear h
  go_enter Tryz.func68, Tryz.ntmps68
  go_wp2
  go_loopw [5] (fun kv wr => ∃ (k : Nat), k ≤ n ∧ kv = .int .i64 k ∧ knownL (L.take k) x = false ∧ wr = w) (fun kv _ => n - (intOf kv).toNat)
  case atStart => exact ⟨0, by omega, rfl, rfl, rfl⟩
  case round =>
    obtain ⟨k, hk, rfl, hkn, rfl⟩ := hrel
    have HKN := Lib.hid hkn
    clear hkn
    rcases Nat.lt_or_ge k n with hlt | hge
    · have hlt' : (k : Int) < (n : Int) := by omega
      have p0 : (0 : Int) ≤ (k : Int) := by omega
      have hw1 : IntKind.i64.wrap ((k : Int) + 1) = (k : Int) + 1 := IntWalk.i64_in _ (by omega)
      obtain ⟨r, hr⟩ : ∃ r, L[k]? = some r := ⟨_, List.getElem?_eq_getElem (by rw [HI.out.len]; exact hlt)⟩
      obtain ⟨pa, rfl, -, c0, -, -, c3, -⟩ := HI.out.at_ k r hr
      have HST := Lib.hid (knownL_step L x hr)
      have hmem := List.mem_of_getElem? hr
      obtain ⟨a, ha⟩ : ∃ a, a = r.num := ⟨_, rfl⟩
      obtain ⟨b, hb⟩ : ∃ b, b = r.dels := ⟨_, rfl⟩
      have HYES : Hid ((a == x) = true ∨ (b == x) = true → knownL L x = true) := Lib.hid (fun hy => by
        unfold knownL
        rw [List.any_eq_true]
        refine ⟨r, hmem, ?_⟩
        rw [← ha, ← hb]
        rcases hy with hy | hy
        · rw [hy]; rfl
        · rw [hy, Bool.or_true])
      rw [← ha] at c0
      rw [← hb] at c3
      rw [← ha, ← hb] at HST
      clear ha hb hr hmem
      cases ta : (a == x) with
      | true =>
        have HY := Lib.hid (HYES.out (.inl ta))
        go_wp2
        go_ret
        exact ⟨by rw [HY.out]; rfl, rfl⟩
      | false =>
        cases tb : (b == x) with
        | true =>
          have HY := Lib.hid (HYES.out (.inr tb))
          go_wp2
          go_ret
          exact ⟨by rw [HY.out]; rfl, rfl⟩
        | false =>
          have HN : Hid (knownL (L.take (k + 1)) x = false) := Lib.hid (by rw [HST.out, HKN.out, ta, tb]; rfl)
          go_wp2
          go_roundw
          case rel => exact ⟨k + 1, by omega, by go_num, HN.out, trivial⟩
          case measure => simp [intOf]; omega
    · have hlz : ¬ ((k : Int) < (n : Int)) := by omega
      have HN : Hid (knownL L x = false) := Lib.hid (by have := HKN.out; rw [List.take_of_length_le (by rw [HI.out.len]; omega)] at this; exact this)
      go_wp2
      go_ret
      exact ⟨by rw [HN.out]; rfl, rfl⟩
end Go.Proofs.YtmhiekbpmoikfaaGreatDoor
namespace Go.Proofs.YtmhiekbpmoikfaaGreatDoor

def rfFit (r : Rf) : Prop := (0 ≤ r.num ∧ r.num ≤ maxNum) ∧ (0 ≤ r.docs ∧ r.docs ≤ maxNum) ∧ (0 ≤ r.level ∧ r.level ≤ maxNum) ∧ 0 ≤ r.dels ∧ r.dels ≤ maxNum
theorem maxNum_lt {x : Int} (h : 0 ≤ x ∧ x ≤ maxNum) : (x.toNat : Int) = x ∧ (x.toNat : Int) ≤ maxNum ∧ x.toNat < 2 ^ 64 := by
  unfold maxNum at *
  omega
theorem rRef_at {s : Rd} {r : Rf} {t : List UInt8} (h : AtR s (refB r ++ t)) (hr : rfFit r) : (rRef s).1 = r ∧ AtR (rRef s).2 t := by
  obtain ⟨f1, f2, f3, f4⟩ := hr
  obtain ⟨a1, a2, a3⟩ := maxNum_lt f1
  obtain ⟨b1, b2, b3⟩ := maxNum_lt f2
  obtain ⟨c1, c2, c3⟩ := maxNum_lt f3
  obtain ⟨d1, d2, d3⟩ := maxNum_lt f4
  unfold refB at h
  rw [List.append_assoc, List.append_assoc, List.append_assoc] at h
  obtain ⟨e1, h1, -⟩ := rInt_at h a2 a3
  obtain ⟨e2, h2, -⟩ := rInt_at h1 b2 b3
  obtain ⟨e3, h3, -⟩ := rInt_at h2 c2 c3
  obtain ⟨e4, h4, -⟩ := rInt_at h3 d2 d3
  refine ⟨?_, h4⟩
  unfold rRef
  simp only
  rw [e1, e2, e3, e4, a1, b1, c1, d1]
theorem rInt_p {s : Rd} (h : s.p ≤ s.bs.length) (most : Int) : (rInt s most).2.p ≤ (rInt s most).2.bs.length := (rInt_ok ⟨h⟩ most).1.place
theorem rRef_p {s : Rd} (h : s.p ≤ s.bs.length) : (rRef s).2.p ≤ (rRef s).2.bs.length := rInt_p (rInt_p (rInt_p (rInt_p h _) _) _) _
theorem AtR.eq {s : Rd} {t t' : List UInt8} (h : AtR s t) (h' : AtR s t') : t = t' := h.2.1.symm.trans h'.2.1
theorem rRef_back {s : Rd} (hp : s.p ≤ s.bs.length) (h : (rRef s).2.e = 0) : ∃ t, AtR s (refB (rRef s).1 ++ t) ∧ rfFit (rRef s).1 ∧ AtR (rRef s).2 t := by
  have p1 := rInt_p hp maxNum
  have p2 := rInt_p p1 maxNum
  have p3 := rInt_p p2 maxNum
  obtain ⟨d, t4, h4, e4, m4, -, k4⟩ := rInt_back p3 h
  obtain ⟨c, t3, h3, e3, m3, -, k3⟩ := rInt_back p2 h4.1
  obtain ⟨b, t2, h2, e2, m2, -, k2⟩ := rInt_back p1 h3.1
  obtain ⟨a, t1, h1, e1, m1, -, k1⟩ := rInt_back hp h2.1
  have q1 := k1.eq h2
  have q2 := k2.eq h3
  have q3 := k3.eq h4
  have e : (rRef s).1 = ⟨(a : Int), (b : Int), (c : Int), (d : Int)⟩ := by
    unfold rRef
    simp only
    rw [e1, e2, e3, e4]
  rw [e]
  refine ⟨t4, ?_, ⟨⟨Int.natCast_nonneg a, m1⟩, ⟨Int.natCast_nonneg b, m2⟩, ⟨Int.natCast_nonneg c, m3⟩, Int.natCast_nonneg d, m4⟩, k4⟩
  unfold refB
  simp only [Int.toNat_natCast]
  rw [List.append_assoc, List.append_assoc, List.append_assoc, ← q3, ← q2, ← q1]
  exact h1
theorem refsB_left (l r : List Rf) : ∀ k, k ≤ l.length → refsB (l ++ r) k = refsB l k
  | 0, _ => rfl
  | k + 1, h => by
    rw [refsB, refsB, refsB_left l r k (by omega), List.getD_eq_getElem?_getD, List.getD_eq_getElem?_getD, List.getElem?_append_left (by omega)]
theorem rUp_len (s : Rd) : ∀ k, (rUp s k).1.length = k
  | 0 => rfl
  | k + 1 => by rw [rUp]; simp [rUp_len s k]
theorem rUp_p {s : Rd} (h : s.p ≤ s.bs.length) : ∀ k, (rUp s k).2.p ≤ (rUp s k).2.bs.length
  | 0 => h
  | k + 1 => by rw [rUp]; exact rRef_p (rUp_p h k)
theorem rUp_at {s : Rd} {l : List Rf} (hl : ∀ r ∈ l, rfFit r) : ∀ (k : Nat) (t : List UInt8), k ≤ l.length → AtR s (refsB l k ++ t) → (rUp s k).1 = l.take k ∧ AtR (rUp s k).2 t
  | 0, t, _, h => ⟨rfl, h⟩
  | k + 1, t, hk, h => by
    rw [refsB, List.append_assoc] at h
    obtain ⟨h1, h2⟩ := rUp_at hl k _ (by omega) h
    have hg : l.getD k refZ = l[k]'(by omega) := by rw [List.getD_eq_getElem?_getD, List.getElem?_eq_getElem (by omega)]; rfl
    obtain ⟨h3, h4⟩ := rRef_at h2 (by rw [hg]; exact hl _ (List.getElem_mem _))
    refine ⟨?_, h4⟩
    rw [rUp]
    simp only
    rw [h1, h3, hg, List.take_add_one, List.getElem?_eq_getElem (by omega)]
    rfl
theorem rUp_back {s : Rd} (hp : s.p ≤ s.bs.length) : ∀ (k : Nat), (rUp s k).2.e = 0 → ∃ t, AtR s (refsB (rUp s k).1 k ++ t) ∧ AtR (rUp s k).2 t ∧ ∀ r ∈ (rUp s k).1, rfFit r
  | 0, h => ⟨s.bs.drop s.p, ⟨h, rfl, hp⟩, ⟨h, rfl, hp⟩, fun r hr => by cases hr⟩
  | k + 1, h => by
    obtain ⟨t2, h2, f2, k2⟩ := rRef_back (rUp_p hp k) h
    obtain ⟨t1, h1, k1, f1⟩ := rUp_back hp k h2.1
    have q := k1.eq h2
    refine ⟨t2, ?_, k2, fun r hr => ?_⟩
    · rw [rUp]
      simp only
      rw [refsB, refsB_left _ _ k (by rw [rUp_len]; omega), List.getD_eq_getElem?_getD, List.getElem?_append_right (by rw [rUp_len]; omega), rUp_len, Nat.sub_self, List.append_assoc]
      rw [q] at h1
      exact h1
    · rw [rUp] at hr
      rcases List.mem_append.1 hr with hr | hr
      · exact f1 r hr
      · rw [List.mem_singleton.1 hr]
        exact f2
theorem mOk_fit {m : Mf} (h : mOk m) : ∀ r ∈ m.refs, rfFit r := by
  intro r hr
  obtain ⟨i, hi, e⟩ := List.getElem_of_mem hr
  obtain ⟨⟨-, -, h3, h4, h5⟩, h6⟩ := h
  have h7 := h6 i hi
  unfold refOk at h7
  have hg : m.refs.getD i refZ = r := by rw [List.getD_eq_getElem?_getD, List.getElem?_eq_getElem hi, e]; rfl
  rw [hg] at h7
  obtain ⟨⟨a1, a2, -, a3, a4, a5, a6⟩, b1, b2, -⟩ := h7
  unfold rfFit
  unfold maxNum at *
  exact ⟨⟨by omega, by omega⟩, ⟨by omega, by omega⟩, ⟨by omega, by omega⟩, by omega, by omega⟩
theorem refB_len {r : Rf} (h : rfFit r) : (refB r).length ≤ 40 := by
  obtain ⟨f1, f2, f3, f4⟩ := h
  have h1 := putL_len r.num.toNat (maxNum_lt f1).2.2
  have h2 := putL_len r.docs.toNat (maxNum_lt f2).2.2
  have h3 := putL_len r.level.toNat (maxNum_lt f3).2.2
  have h4 := putL_len r.dels.toNat (maxNum_lt f4).2.2
  unfold refB
  simp only [List.length_append]
  omega
theorem refsB_len {l : List Rf} (h : ∀ r ∈ l, rfFit r) : ∀ k, k ≤ l.length → (refsB l k).length ≤ 40 * k
  | 0, _ => Nat.le_refl _
  | k + 1, hk => by
    rw [refsB, List.length_append]
    have h1 := refsB_len h k (by omega)
    have hg : l.getD k refZ = l[k]'(by omega) := by rw [List.getD_eq_getElem?_getD, List.getElem?_eq_getElem (by omega)]; rfl
    have h2 := refB_len (h (l.getD k refZ) (by rw [hg]; exact List.getElem_mem _))
    omega
theorem mBody_len {m : Mf} (h : mOk m) : (mBody m).length ≤ 990 := by
  have h0 := h.1
  unfold mTop maxNum at h0
  have h1 := putL_len m.gen.toNat (by omega)
  have h2 := putL_len m.next.toNat (by omega)
  have h3 := putL_len m.refs.length (by omega)
  have h4 := refsB_len (mOk_fit h) m.refs.length (Nat.le_refl _)
  unfold mBody
  simp only [List.length_append]
  omega
/-- What was put is read as it was. -/
theorem mOf_put {m : Mf} (h : mOk m) : mOf (mBody m) = some m := by
  have h0 := h.1
  unfold mTop at h0
  have ht : AtR ⟨mBody m, 0, 0⟩ (putL m.gen.toNat ++ (putL m.next.toNat ++ (putL m.refs.length ++ (refsB m.refs m.refs.length ++ [])))) := by
    refine ⟨rfl, ?_, Nat.zero_le _⟩
    show (mBody m).drop 0 = _
    unfold mBody
    simp
  obtain ⟨a1, a2, a3⟩ := maxNum_lt ⟨h0.1, h0.2.1⟩
  obtain ⟨b1, b2, b3⟩ := maxNum_lt (x := m.next) ⟨by omega, h0.2.2.2.1⟩
  obtain ⟨e1, k1, -⟩ := rInt_at ht a2 a3
  obtain ⟨e2, k2, -⟩ := rInt_at k1 b2 b3
  obtain ⟨e3, k3, -⟩ := rInt_at (most := 24) k2 (by omega) (by omega)
  have hm : mMany (mBody m) = (m.refs.length : Int) := e3
  obtain ⟨e4, k4⟩ := rUp_at (mOk_fit h) m.refs.length [] (Nat.le_refl _) k3
  rw [List.take_length] at e4
  have hr : mRead (mBody m) = m := by
    unfold mRead
    rw [hm, Int.toNat_natCast]
    unfold mHd
    rw [e1, e2, e4, a1, b1]
  unfold mOf
  rw [hr, hm, Int.toNat_natCast]
  unfold mHd
  rw [if_neg]
  rintro (h1 | h1 | h1)
  · exact h1 k4.1
  · unfold rLeft at h1
    rw [if_neg (by rw [k4.1]; simp)] at h1
    have := congrArg List.length k4.2.1
    rw [List.length_drop] at this
    simp at this
    omega
  · exact h1 h
theorem mOf_back {x : List UInt8} {m : Mf} (h : mOf x = some m) : mOk m ∧ mBody m = x := by
  unfold mOf at h
  split at h
  · cases h
  · rename_i hn
    cases h
    have h1 : (rUp (mHd x) (mMany x).toNat).2.e = 0 := by omega
    have h2 : rLeft (rUp (mHd x) (mMany x).toNat).2 = 0 := by omega
    have h3 : mOk (mRead x) := Decidable.of_not_not fun h => hn (.inr (.inr h))
    refine ⟨h3, ?_⟩
    have p0 : (⟨x, 0, 0⟩ : Rd).p ≤ (⟨x, 0, 0⟩ : Rd).bs.length := Nat.zero_le _
    have p1 := rInt_p p0 maxNum
    have p2 := rInt_p p1 maxNum
    have p3 : (mHd x).p ≤ (mHd x).bs.length := rInt_p p2 24
    obtain ⟨t, k1, k2, -⟩ := rUp_back p3 _ h1
    obtain ⟨v3, t3, a3, e3, -, -, b3⟩ := rInt_back p2 k1.1
    obtain ⟨v2, t2, a2, e2, -, -, b2⟩ := rInt_back p1 a3.1
    obtain ⟨v1, t1, a1, e1, -, -, b1⟩ := rInt_back p0 a2.1
    have q1 := b1.eq a2
    have q2 := b2.eq a3
    have q3 := b3.eq k1
    have ht : t = [] := by
      unfold rLeft at h2
      rw [if_neg (by rw [h1]; simp)] at h2
      have h5 := congrArg List.length k2.2.1
      rw [List.length_drop] at h5
      exact List.eq_nil_of_length_eq_zero (by omega)
    have hm : (mMany x).toNat = v3 := by
      have : mMany x = (v3 : Int) := e3
      rw [this, Int.toNat_natCast]
    have hx := a1.2.1
    simp only [List.drop_zero] at hx
    unfold mBody mRead
    simp only
    rw [e1, e2, rUp_len, Int.toNat_natCast, Int.toNat_natCast]
    refine Eq.trans ?_ hx.symm
    rw [q1, q2, q3, ht, hm, List.append_nil, List.append_assoc, List.append_assoc]
theorem mGet_put {m : Mf} (h : mOk m) : mGetB (mPutB m) = some m := by
  have ha : allF (mPutB m) = ([mBody m], 0) := by
    have := allF_put [mBody m] (fun x hx => by rw [List.mem_singleton.1 hx]; have := mBody_len h; omega)
    simpa [mPutB] using this
  unfold mGetB
  rw [ha]
  simp only
  rw [if_neg (by simp)]
  exact mOf_put h
/-- What is read of any bytes has them as they stood. -/
theorem mGet_back {b : List UInt8} {m : Mf} (h : mGetB b = some m) : mOk m ∧ mPutB m = b := by
  unfold mGetB at h
  split at h
  · cases h
  · rename_i h0
    obtain ⟨L, e, hA⟩ : ∃ L e, allF b = (L, e) := ⟨_, _, rfl⟩
    rw [hA] at h h0
    simp only at h h0
    have he : e = 0 := by omega
    subst he
    obtain ⟨x, rfl⟩ : ∃ x, L = [x] := by
      match L, h0 with
      | [], h0 => simp at h0
      | [x], _ => exact ⟨x, rfl⟩
      | _ :: _ :: _, h0 => simp at h0
    obtain ⟨hb, -⟩ := allF_inv hA
    rw [List.flatMap_singleton] at hb
    rw [show ([x] : List (List UInt8)).getD 0 [] = x from rfl] at h
    obtain ⟨h1, h2⟩ := mOf_back h
    exact ⟨h1, by unfold mPutB; rw [h2, ← hb]⟩
end Go.Proofs.YtmhiekbpmoikfaaGreatDoor
namespace Go.Proofs.YtmhiekbpmoikfaaGreatDoor
open Go.RowKit Go.Maps Go.WideMaps
set_option linter.unusedSimpArgs false

/-- The library's table of powers of ten is there. -/
def Pow10 (w : World) : Prop := Lib.TabIs Tryz.prog w "internal/strconv.uint64pow10" .u64 Lib.pow10Tab
set_option maxRecDepth 100000 in
theorem Pow10.later {w w' : World} {B : Nat} (h : Pow10 w) (hb : Below B w w') (hB : w.heap.size ≤ B) : Pow10 w' := Go.Joins.tab_stays (g := 0) (by kernel_rfl) h hb hB
theorem Pow10.drewN {w : World} (h : Pow10 w) (q : Nat) : Pow10 (w.drewN q) := h.later (below_drewN (Below.refl _ w) q) (Nat.le_refl _)
theorem formatInt_any (w : World) (n : Int) (hn : -9223372036854775808 ≤ n ∧ n ≤ 9223372036854775807) (ht : Pow10 w) :
    Calls Tryz.prog 70 #[.int .i64 n, .int .i64 10] w fun e w' => e = .returned (.string ⟨(Lib.itoa n).toArray⟩) ∧ Below w.heap.size w w' := by
  refine (Any.strconv_FormatInt_10 Tryz.lays173 n hn.1 hn.2 w ht).mono ?_
  rintro e w' ⟨rfl, k, os, rfl⟩
  exact ⟨rfl, Lib.below_grow _ w (Nat.le_refl _) k os⟩
/-- A file's name: a letter, a dot, and the number. -/
def nameN (c : UInt8) (n : Int) : Nm := c :: 46 :: Lib.itoa n

theorem cat_ba (a b : UInt8) (L : Nm) : (⟨#[a, b]⟩ : ByteArray) ++ ⟨L.toArray⟩ = ⟨(a :: b :: L).toArray⟩ := by
  apply ByteArray.ext
  simp [ByteArray.data_append]
set_option maxHeartbeats 4000000 in
set_option maxRecDepth 100000 in
theorem r15Seg_any (w : World) (n : Int) (hn : -9223372036854775808 ≤ n ∧ n ≤ 9223372036854775807) (ht : Pow10 w) :
    Calls Tryz.prog 20 #[.int .i64 n] w fun e w' => e = .returned (.string ⟨(nameN 115 n).toArray⟩) ∧ Below w.heap.size w w' := by
  have hl := Lib.itoa_length_le n hn.1 hn.2
  have HC := Lib.hid (formatInt_any w n hn ht)
  have HD : Hid (nameN 115 n = 115 :: 46 :: Lib.itoa n) := Lib.hid rfl
  obtain ⟨L, hL⟩ : ∃ L, L = Lib.itoa n := ⟨_, rfl⟩
  rw [← hL] at HC hl HD
  clear hL
  go_enter Tryz.func20, Tryz.ntmps20
  go_wp2_with fail
  refine HC.out.mono ?_
  rintro e w1 ⟨rfl, hb⟩
  have HB := Lib.hid hb
  clear hb
  go_wp2
  go_ret
  exact ⟨by rw [HD.out]; exact congrArg (fun z => Ending.returned (.string z)) (cat_ba 115 46 L), HB.out⟩
set_option maxHeartbeats 4000000 in
set_option maxRecDepth 100000 in
theorem r15Dels_any (w : World) (n : Int) (hn : -9223372036854775808 ≤ n ∧ n ≤ 9223372036854775807) (ht : Pow10 w) :
    Calls Tryz.prog 22 #[.int .i64 n] w fun e w' => e = .returned (.string ⟨(nameN 100 n).toArray⟩) ∧ Below w.heap.size w w' := by
  have hl := Lib.itoa_length_le n hn.1 hn.2
  have HC := Lib.hid (formatInt_any w n hn ht)
  have HD : Hid (nameN 100 n = 100 :: 46 :: Lib.itoa n) := Lib.hid rfl
  obtain ⟨L, hL⟩ : ∃ L, L = Lib.itoa n := ⟨_, rfl⟩
  rw [← hL] at HC hl HD
  clear hL
  go_enter Tryz.func22, Tryz.ntmps22
  go_wp2_with fail
  refine HC.out.mono ?_
  rintro e w1 ⟨rfl, hb⟩
  have HB := Lib.hid hb
  clear hb
  go_wp2
  go_ret
  exact ⟨by rw [HD.out]; exact congrArg (fun z => Ending.returned (.string z)) (cat_ba 100 46 L), HB.out⟩
end Go.Proofs.YtmhiekbpmoikfaaGreatDoor
namespace Go.Proofs.YtmhiekbpmoikfaaGreatDoor
open Go.RowKit Go.Maps Go.WideMaps Go.Sort
set_option linter.unusedSimpArgs false

def manB : Nm := [109, 97, 110]
/-- The names of the first k references' files. -/
def namesTo (l : List Rf) : Nat → List Nm
  | 0 => [manB]
  | k + 1 => (namesTo l k ++ [nameN 115 (l.getD k refZ).num]) ++ if 0 < (l.getD k refZ).dels then [nameN 100 (l.getD k refZ).dels] else []
def mNames (m : Mf) : List Nm := namesTo m.refs m.refs.length
theorem namesTo_len (l : List Rf) : ∀ k, (namesTo l k).length ≤ 1 + 2 * k
  | 0 => by simp [namesTo]
  | k + 1 => by
    rw [namesTo]
    have := namesTo_len l k
    split <;> simp <;> omega
theorem strInfoM : (Tryz.prog.info? 9).map (fun i => (i.zero, i.size, i.bytes)) = some (some (.string ⟨#[]⟩), 1, 16) := by kernel_rfl
theorem one_str_src (w : World) (x : Nm) : Src (w.alloc (.cells #[.string ⟨x.toArray⟩] 9)) (some ⟨w.heap.size, 0, none⟩) 1 ([x].map encStr) := by
  refine ⟨rfl, fun ad e j u hu => ?_, fun e => by cases e⟩
  cases e
  have hj : j = 0 := by
    have := (List.getElem?_eq_some_iff.1 hu).1
    simp at this
    exact this
  subst hj
  rw [show (⟨w.heap.size, 0, none⟩ : Addr).add 0 = ⟨w.heap.size, 0, none⟩ by simp [Addr.add], cell_of_row _ w.heap.size 0 _ 9 (0, 0) (heap_alloc_new w _)]
  simpa [encStr] using hu
theorem encStr_one (l : List Nm) : ∀ u ∈ l.map encStr, u.oneCell' = true := by
  intro u hu
  obtain ⟨x, _, rfl⟩ := List.mem_map.1 hu
  rfl

set_option maxHeartbeats 8000000 in
set_option maxRecDepth 100000 in
theorem r15Names_any (w : World) (HP : Pow10 w) (m : Mf) (A : Option Addr) (n c : Nat) (h : RefsIn w A n m.refs) (hn : n ≤ 1000) :
    Calls Tryz.prog 48 #[.agg #[.int .i64 m.gen, .int .i64 m.next, .slice A n c]] w fun e w' => ∃ v, e = .returned v ∧ w'.ownsRow w.heap.size 9 1 v (mNames m).length ((mNames m).map encStr) ∧ Below w.heap.size w w' := by
  obtain ⟨i0, hi, hz0, hz1, hz2⟩ := info_parts strInfoM
  have HI := Lib.hid h
  have HLN := Lib.hid h.len
  obtain ⟨w1, hw1⟩ : ∃ w1, w1 = w.alloc (.cells #[.int .i64 m.gen, .int .i64 m.next, .slice A n c] 24) := ⟨_, rfl⟩
  obtain ⟨w2, hw2⟩ : ∃ w2, w2 = w1.alloc (.cells #[.string ⟨#[109, 97, 110]⟩] 9) := ⟨_, rfl⟩
  obtain ⟨bm, hbm⟩ : ∃ b, b = w.heap.size := ⟨_, rfl⟩
  have hs1 : w1.heap.size = w.heap.size + 1 := by rw [hw1]; simp
  have hbw1 : Below w.heap.size w w1 := by rw [hw1]; exact (Below.refl _ w).alloc (Nat.le_refl _) _
  have HBW : Hid (Below w.heap.size w w2) := Lib.hid (by rw [hw2]; exact hbw1.alloc hbw1.size _)
  have HK : Hid (Blk w2 bm 24 #[.int .i64 m.gen, .int .i64 m.next, .slice A n c]) := Lib.hid (by rw [hw2, hw1, hbm]; exact (Blk.new _ _ _).alloc _)
  have HR2 : Hid (w2.ownsRow (w.heap.size + 1) 9 1 (.slice (some ⟨w.heap.size + 1, 0, none⟩) 1 1) (namesTo m.refs 0).length ((namesTo m.refs 0).map encStr)) := Lib.hid (by
    rw [hw2, ← hs1]
    exact ⟨rfl, .inr ⟨w1.heap.size, 1, #[.string ⟨#[109, 97, 110]⟩], rfl, Nat.le_refl _, heap_alloc_new w1 _, Nat.le_refl _, by unfold maxLen; omega, rfl, rfl⟩⟩)
  rw [hw1] at hw2
  have HW2 := Lib.hid hw2
  have HBM := Lib.hid hbm
  have HM2 : Hid (∀ u : World, Kept (fun g => w.heap.size + 1 ≤ g) w2 u → u.cell? ⟨bm, 2, none⟩ = some (.slice A n c) ∧ RefsIn u A n m.refs ∧ Pow10 u) := Lib.hid (fun u hu => by
    have h1 := (HK.out.kept hu (by rw [hbm]; omega)).cell 2
    have hb : Below w.heap.size w u := HBW.out.trans (hu.toBelow HBW.out.size (fun i hi => by omega))
    exact ⟨h1, HI.out.below hb, HP.later hb (Nat.le_refl _)⟩)
  obtain ⟨k2, -, -⟩ := HM2.out w2 (Kept.refl _ _)
  have hs2 : w.heap.size + 1 ≤ w2.heap.size := by rw [hw2]; simp
  clear hw1 hw2 hbm hbw1 h HP HK
  go_enter Tryz.func48, Tryz.ntmps48
  go_upto_region 2 with fail
  rw [← HW2.out, ← HBM.out]
  obtain ⟨v0, hv0⟩ : ∃ z, z = Value.slice (some ⟨bm + 1, 0, none⟩) 1 1 := ⟨_, rfl⟩
  rw [← HBM.out, ← hv0] at HR2
  rw [← hv0]
  clear hv0
  rw [← HBM.out] at HM2 hs2
  go_wp2
  go_loopw [3, 4] (fun v iv wr => ∃ (i : Nat), i ≤ n ∧ iv = .int .i64 i ∧ wr.ownsRow (bm + 1) 9 1 v (namesTo m.refs i).length ((namesTo m.refs i).map encStr) ∧ Kept (fun g => bm + 1 ≤ g) w2 wr) (fun _ iv _ => n - (intOf iv).toNat)
  case atStart => exact ⟨0, by omega, rfl, HR2.out, Kept.refl _ _⟩
  case round =>
    obtain ⟨i, hi0, rfl, hown, hkk⟩ := hrel
    have HKK := Lib.hid hkk
    have HO := Lib.hid hown
    obtain ⟨Ay, cy, hv⟩ := own_slice hown
    subst hv
    have hnl := namesTo_len m.refs i
    have hsz := hkk.size
    obtain ⟨k2, hrf, hpw⟩ := HM2.out wr hkk
    have HPW := Lib.hid hpw
    have HRF := Lib.hid hrf
    clear hown hkk hpw hrf
    rcases Nat.lt_or_ge i n with hlt | hge
    · have hlt' : (i : Int) < (n : Int) := by omega
      have p0 : (0 : Int) ≤ (i : Int) := by omega
      have hw1 : IntKind.i64.wrap ((i : Int) + 1) = (i : Int) + 1 := IntWalk.i64_in _ (by omega)
      obtain ⟨r, hr⟩ : ∃ r, m.refs[i]? = some r := ⟨_, List.getElem?_eq_getElem (by rw [HLN.out]; exact hlt)⟩
      obtain ⟨pa, rfl, -, c0, -, -, c3, f0, -, -, f3⟩ := HRF.out.at_ i r hr
      have HRR := Lib.hid hr
      have HNT : Hid (namesTo m.refs (i + 1) = (namesTo m.refs i ++ [nameN 115 r.num]) ++ if 0 < r.dels then [nameN 100 r.dels] else []) := Lib.hid (by rw [namesTo, List.getD_eq_getElem?_getD, hr]; rfl)
      have HCS := Lib.hid (r15Seg_any wr r.num f0 HPW.out)
      obtain ⟨N1, hN1⟩ : ∃ N1, N1 = nameN 115 r.num := ⟨_, rfl⟩
      rw [← hN1] at HCS HNT
      clear hr hN1
      obtain ⟨wo, hwo⟩ : ∃ zz, zz = wr := ⟨_, rfl⟩
      subst hwo
      go_wp2_with fail
      refine HCS.out.mono ?_
      rintro e u ⟨rfl, hb⟩
      have HKU := Lib.hid ((HKK.out.trans (Kept.below hb) (fun i _ hi => hi)).alloc (.cells #[.string ⟨N1.toArray⟩] 9))
      have HOU : Hid ((u.alloc (.cells #[.string ⟨N1.toArray⟩] 9)).ownsRow (bm + 1) 9 1 (.slice Ay (namesTo m.refs i).length cy) (namesTo m.refs i).length ((namesTo m.refs i).map encStr)) := Lib.hid (World.ownsRow.alloc (ownsRow_block HO.out fun g hg => hb.block g (HO.out.lt g hg).2) _)
      have HSU := Lib.hid (one_str_src u N1)
      have hsu := hb.size
      clear hb HCS
      cases hd : decide (0 < r.dels) with
      | false =>
        have HDD : Hid (¬ 0 < r.dels) := Lib.hid (of_decide_eq_false hd)
        go_wp2_with (at_builtin; refine wpList_append_src _ rfl (.tmp 13) (.tmp 21) 76 rfl (bm + 1) 9 i0 (.string ⟨#[]⟩) 16 Tryz.underlying76 hi hz0 hz1 hz2 rfl _ _ _ rfl HOU.out _ 1 1 ([N1].map encStr) rfl HSU.out (encStr_one _) (by unfold maxLen; omega) (by omega) (by simp; omega) ?_; intro q2 z2 hown hgrow _; have HKZ := Lib.hid (HKU.out.grown hgrow (fun g hg => .inl (HOU.out.lt g hg).1)); rw [← List.map_append] at hown; have HZ := Lib.hid hown; obtain ⟨k2z, hrz, -⟩ := HM2.out z2 HKZ.out; obtain ⟨pa', e', -, c0z, -, -, c3z, -⟩ := hrz.at_ i r HRR.out; obtain rfl := Option.some.inj e'; clear hown hgrow hrz e')
        go_roundw
        case rel => exact ⟨i + 1, by omega, by go_num, by rw [HNT.out, if_neg (by have := HDD.out; omega), List.append_nil, List.length_append]; exact HZ.out, HKZ.out⟩
        case measure => simp [intOf]; omega
      | true =>
        have HDD : Hid (0 < r.dels) := Lib.hid (of_decide_eq_true hd)
        obtain ⟨N2, hN2⟩ : ∃ N2, N2 = nameN 100 r.dels := ⟨_, rfl⟩
        rw [← hN2] at HNT
        have HN2 := Lib.hid hN2
        clear hN2
        go_wp2_with (at_builtin; refine wpList_append_src _ rfl (.tmp 13) (.tmp 21) 76 rfl (bm + 1) 9 i0 (.string ⟨#[]⟩) 16 Tryz.underlying76 hi hz0 hz1 hz2 rfl _ _ _ rfl HOU.out _ 1 1 ([N1].map encStr) rfl HSU.out (encStr_one _) (by unfold maxLen; omega) (by omega) (by simp; omega) ?_; intro q2 z2 hown hgrow _; have HKZ := Lib.hid (HKU.out.grown hgrow (fun g hg => .inl (HOU.out.lt g hg).1)); rw [← List.map_append] at hown; have HZ := Lib.hid hown; obtain ⟨k2z, hrz, hpz⟩ := HM2.out z2 HKZ.out; obtain ⟨pa', e', -, c0z, -, -, c3z, -⟩ := hrz.at_ i r HRR.out; obtain rfl := Option.some.inj e'; have HCD := Lib.hid (r15Dels_any z2 r.dels f3 hpz); rw [← HN2.out] at HCD; obtain ⟨Az, cz, hqz⟩ := own_slice hown; subst hqz; clear hown hgrow hrz e' hpz)
        refine HCD.out.mono ?_
        rintro e u2 ⟨rfl, hb2⟩
        have HKV := Lib.hid ((HKZ.out.trans (Kept.below hb2) (fun i _ hi => hi)).alloc (.cells #[.string ⟨N2.toArray⟩] 9))
        have HOV : Hid ((u2.alloc (.cells #[.string ⟨N2.toArray⟩] 9)).ownsRow (bm + 1) 9 1 (.slice Az ((namesTo m.refs i).length + 1) cz) ((namesTo m.refs i).length + 1) ((namesTo m.refs i ++ [N1]).map encStr)) := Lib.hid (World.ownsRow.alloc (ownsRow_block HZ.out fun g hg => hb2.block g (HZ.out.lt g hg).2) _)
        have HSV := Lib.hid (one_str_src u2 N2)
        have hsv := hb2.size
        have hsz2 := HKZ.out.size
        clear hb2 HCD
        go_wp2_with (at_builtin; refine wpList_append_src _ rfl (.tmp 30) (.tmp 38) 76 rfl (bm + 1) 9 i0 (.string ⟨#[]⟩) 16 Tryz.underlying76 hi hz0 hz1 hz2 rfl _ _ _ rfl HOV.out _ 1 1 ([N2].map encStr) rfl HSV.out (encStr_one _) (by unfold maxLen; omega) (by omega) (by simp; omega) ?_; intro q3 z3 hown hgrow _; have HKY := Lib.hid (HKV.out.grown hgrow (fun g hg => .inl (HOV.out.lt g hg).1)); rw [← List.map_append] at hown; have HY := Lib.hid hown; clear hown hgrow)
        refine ⟨⟨i + 1, by omega, by go_num, ?_, HKY.out⟩, by simp [intOf]; omega⟩
        have := HY.out
        rw [HNT.out, if_pos HDD.out]
        simpa using this
    · have hlz : ¬ ((i : Int) < (n : Int)) := by omega
      have HIN : Hid (i = m.refs.length) := Lib.hid (by rw [HLN.out]; omega)
      have HBF : Hid (Below w.heap.size w wr) := Lib.hid (HBW.out.trans (HKK.out.toBelow HBW.out.size (fun g hg => by have := HBM.out; omega)))
      go_wp2
      go_ret
      refine ⟨_, rfl, ?_, HBF.out⟩
      unfold mNames
      rw [← HIN.out]
      exact Go.Joins.ownsRow_le HO.out (by have := HBM.out; omega)
end Go.Proofs.YtmhiekbpmoikfaaGreatDoor
namespace Go.Proofs.YtmhiekbpmoikfaaGreatDoor
open Go.RowKit Go.Maps Go.WideMaps
set_option linter.unusedSimpArgs false

def rfCells (r : Rf) : List Value := [.int .i64 r.num, .int .i64 r.docs, .int .i64 r.level, .int .i64 r.dels]
theorem refInfo : (Tryz.prog.info? 88).map (fun i => (i.zero, i.size, i.bytes)) = some (some (.agg #[.int .i64 0, .int .i64 0, .int .i64 0, .int .i64 0]), 4, 32) := by kernel_rfl
theorem manCells : (Tryz.prog.info? 24).map (·.size) = some 3 := by kernel_rfl
theorem results_man {P : Program} {fn : Func} {p u : Tmp} {ty : TypeId} (h : fn.results = #[.cell p ty, .tmp u]) (tmps : Array Value) (w : World) (g : Nat) (t : TypeId) (cs : Array Value) (fr : Nat × Nat) (d : TypeDesc)
    (hp : tmps.getD p undef = .pointer (some ⟨g, 0, none⟩)) (hg : w.heap[g]? = some (.cells cs t fr))
    (hu : P.underlying ty = some d) (hd : (match d with | .struct _ | .array _ _ => true | _ => false) = true) (hi : (P.info? ty).map (·.size) = some cs.size) :
    (results fn tmps).run P w = .ok (.tuple #[.agg cs, tmps.getD u undef]) w := by
  rw [results_cell_tmp h, hp]
  simp [asAddr, run_loadVar_row w g t ty cs fr d hg hu hd hi, Result.andThen]
theorem rfCells_len (L : List Rf) : (L.flatMap rfCells).length = L.length * 4 := by
  induction L with
  | nil => rfl
  | cons a r ih => rw [List.flatMap_cons, List.length_append, ih, List.length_cons]; simp [rfCells]; omega
theorem rfCells_at (L : List Rf) : ∀ (i j : Nat) (r : Rf) (u : Value), L[i]? = some r → (rfCells r)[j]? = some u → (L.flatMap rfCells)[i * 4 + j]? = some u := by
  induction L with
  | nil => intro i j m u h1; simp at h1
  | cons a r ih =>
    intro i j m u h1 h2
    have hj : j < 4 := by have := (List.getElem?_eq_some_iff.1 h2).1; simpa [rfCells] using this
    rw [List.flatMap_cons]
    cases i with
    | zero =>
      simp at h1
      subst h1
      rw [List.getElem?_append_left (by simp [rfCells]; omega)]
      simpa using h2
    | succ i =>
      simp at h1
      rw [List.getElem?_append_right (by simp [rfCells]; omega)]
      have : (i + 1) * 4 + j - (rfCells a).length = i * 4 + j := by simp [rfCells]; omega
      rw [this]
      exact ih i j m u h1 h2
theorem addr_at (g k : Nat) : (⟨g, 0, none⟩ : Addr).add k = ⟨g, k, none⟩ := by unfold Addr.add; split <;> simp_all
/-- References of one's own, to be read. -/
theorem RefsIn.own {w : World} {base : Nat} {A : Option Addr} {n c : Nat} {L : List Rf} (h : w.ownsRow base 88 4 (.slice A n c) n (L.flatMap rfCells)) (hl : L.length = n) (hn : n ≤ maxLen) (hf : ∀ r ∈ L, rfBound r) : RefsIn w A n L := by
  refine ⟨hl, hn, fun e => ?_, fun i r hr => ?_⟩
  · subst e
    rcases h.2 with ⟨h1, h0⟩ | ⟨g, cap, cur, h1, _⟩
    · omega
    · cases h1
  · have hil := (List.getElem?_eq_some_iff.1 hr).1
    cases A with
    | none =>
      rcases h.2 with ⟨h1, h0⟩ | ⟨g, cap, cur, h1, _⟩
      · omega
      · cases h1
    | some ad =>
      have hz : ad = ⟨ad.block, 0, none⟩ := by
        rcases h.2 with ⟨h1, _⟩ | ⟨g, cap, cur, h1, _⟩
        · cases h1
        · cases h1; rfl
      have hlt := (h.lt ad.block rfl).2
      obtain ⟨g, hg⟩ : ∃ g, g = ad.block := ⟨_, rfl⟩
      rw [← hg] at hz hlt
      subst hz
      have hc := fun j u (hj : (rfCells r)[j]? = some u) => h.cells (g := g) rfl (i * 4 + j) u (rfCells_at _ i j r u hr hj)
      refine ⟨_, rfl, hlt, ?_, ?_, ?_, ?_, hf r (List.mem_of_getElem? hr)⟩
      · simpa [addr_at] using hc 0 _ rfl
      · simpa [addr_at] using hc 1 _ rfl
      · simpa [addr_at] using hc 2 _ rfl
      · simpa [addr_at] using hc 3 _ rfl
theorem refs_cap {w : World} {base : Nat} {A : Option Addr} {n c : Nat} {xs : List Value} (h : w.ownsRow base 88 4 (.slice A n c) n xs) : n ≤ c := by
  rcases h.2 with ⟨h1, h0⟩ | ⟨g, cap, cur, h1, _, _, hc, _⟩
  · omega
  · injection h1 with _ _ h3
    omega
end Go.Proofs.YtmhiekbpmoikfaaGreatDoor
namespace Go.Proofs.YtmhiekbpmoikfaaGreatDoor
open Go.RowKit Go.Maps Go.WideMaps
set_option linter.unusedSimpArgs false

theorem rInt_rng (s : Rd) {most : Int} (h0 : 0 ≤ most) : 0 ≤ (rInt s most).1 ∧ (rInt s most).1 ≤ most := by
  unfold rInt
  split
  · exact ⟨by simp, by simpa using h0⟩
  · split
    · exact ⟨by simp, by simpa using h0⟩
    · split
      · exact ⟨by simp, by simpa using h0⟩
      · rename_i h
        simp only [not_or] at h
        exact ⟨by simp, by simp only; omega⟩
theorem rRef_bound (s : Rd) : rfBound (rRef s).1 := by
  have h := fun s => rInt_rng s (most := maxNum) (by unfold maxNum; omega)
  unfold maxNum at h
  have f : ∀ x : Int, 0 ≤ x ∧ x ≤ 1099511627776 → fits64 x := fun x hx => ⟨by omega, by omega⟩
  exact ⟨f _ (h _), f _ (h _), f _ (h _), f _ (h _)⟩
theorem rUp_bound (s : Rd) : ∀ k, ∀ r ∈ (rUp s k).1, rfBound r
  | 0, r, h => by simp [rUp] at h
  | k + 1, r, h => by
    rw [rUp] at h
    rcases List.mem_append.1 h with h | h
    · exact rUp_bound s k r h
    · rw [List.mem_singleton.1 h]; exact rRef_bound _
/-- A reader and a manifest that grows. -/
structure MGrow (w0 w : World) (rb mb : Nat) (A : Option Addr) (c : Nat) (s : Rd) (gen next : Int) (v : Value) (l : List Rf) : Prop where
  rd : IsR3 w rb s A c
  blk : Blk w mb 24 #[.int .i64 gen, .int .i64 next, v]
  row : w.ownsRow (mb + 1) 88 4 v l.length (l.flatMap rfCells)
  kept : Kept (fun g => g = rb ∨ mb ≤ g) w0 w
  rl : rb < mb
  al : ∀ ad, A = some ad → 0 < s.bs.length → ad.block < mb
/-- The reader goes on. -/
theorem MGrow.step {w0 w u : World} {rb mb : Nat} {A : Option Addr} {c : Nat} {s s' : Rd} {gen next : Int} {v : Value} {l : List Rf} (h : MGrow w0 w rb mb A c s gen next v l) (hk : Kept (fun g => g = rb ∨ w.heap.size ≤ g) w u) (hr : IsR3 u rb s' A c) (hb : s'.bs = s.bs) : MGrow w0 u rb mb A c s' gen next v l where
  rd := hr
  blk := h.blk.kept hk (fun e => by have := h.rl; have := h.blk.lt; omega)
  row := ownsRow_block h.row fun g hg => hk.block g (h.row.lt g hg).2 (fun e => by have := h.rl; have := h.row.lt g hg; omega)
  kept := h.kept.trans hk (fun i hi e => by
    rcases e with e | e
    · exact .inl e
    · have := h.kept.size; omega)
  rl := h.rl
  al := by rw [hb]; exact h.al
theorem MGrow.apart_ {w0 w : World} {rb mb : Nat} {A : Option Addr} {c : Nat} {s : Rd} {gen next : Int} {v : Value} {l : List Rf} (h : MGrow w0 w rb mb A c s gen next v l) {g : Nat} (hg : mb ≤ g) {u : World} (hk : Kept (fun i => i = g) w u) : IsR3 u rb s A c :=
  h.rd.same hk (fun e => by have := h.rl; omega) (fun ad e h0 hf => by have := h.al ad e h0; omega)
/-- A number is put. -/
theorem MGrow.put {w0 w : World} {rb mb : Nat} {A : Option Addr} {c : Nat} {s : Rd} {gen next gen' next' : Int} {v : Value} {l : List Rf} (h : MGrow w0 w rb mb A c s gen next v l) (j : Nat) (u : Value) (hu : (#[.int .i64 gen, .int .i64 next, v] : Array Value).setIfInBounds j u = #[.int .i64 gen', .int .i64 next', v]) : MGrow w0 (w.setCell ⟨mb, j, none⟩ u) rb mb A c s gen' next' v l where
  rd := h.apart_ (Nat.le_refl _) ((Kept.refl (fun i => i = mb) w).setCell (.inl rfl) u)
  blk := by have := h.blk.set_ j u; rw [hu] at this; exact this
  row := ownsRow_block h.row fun g hg => Below.heap_setCell w _ u g (by have := (h.row.lt g hg).1; show g ≠ mb; omega)
  kept := h.kept.setCell (.inl (.inr (Nat.le_refl _))) u
  rl := h.rl
  al := h.al
/-- A reference is pushed. -/
theorem MGrow.push {w0 w w' : World} {rb mb : Nat} {A : Option Addr} {c : Nat} {s : Rd} {gen next : Int} {v v' : Value} {l : List Rf} {r : Rf} (h : MGrow w0 w rb mb A c s gen next v l) (hg : w.grownBy w' v.ownBlock) (hr : w'.ownsRow (mb + 1) 88 4 v' (l.length + 1) (l.flatMap rfCells ++ rfCells r)) : MGrow w0 (w'.setCell ⟨mb, 2, none⟩ v') rb mb A c s gen next v' (l ++ [r]) := by
  have hk : Kept (fun i => some i = v.ownBlock) w w' := (Kept.refl _ w).grown hg (fun k e => .inl e.symm)
  have hv : ∀ g, some g = v.ownBlock → mb + 1 ≤ g := fun g e => (h.row.lt g e.symm).1
  have hb : Blk w' mb 24 #[.int .i64 gen, .int .i64 next, v] := h.blk.kept hk (fun e => by have := hv _ e; omega)
  have hk2 : Kept (fun i => i = mb ∨ some i = v.ownBlock) w (w'.setCell ⟨mb, 2, none⟩ v') := (hk.mono (fun i e => .inr e)).setCell (.inl (.inl rfl)) v'
  exact
  { rd := h.rd.same hk2 (fun e => by
      have := h.rl
      rcases e with e | e
      · omega
      · have := hv _ e; omega) (fun ad e h0 hf => by
      have := h.al ad e h0
      rcases hf with e | e
      · omega
      · have := hv _ e; omega)
    blk := by simpa using hb.set_ 2 v'
    row := by
      rw [List.length_append, List.length_singleton, List.flatMap_append, List.flatMap_singleton]
      exact ownsRow_block hr fun g hg => Below.heap_setCell w' _ v' g (by have := (hr.lt g hg).1; show g ≠ mb; omega)
    kept := h.kept.trans hk2 (fun i _ e => by
      rcases e with e | e
      · exact .inr (by omega)
      · exact .inr (by have := hv _ e; omega))
    rl := h.rl
    al := h.al }
theorem rUp_succ {s t t1 t2 t3 t4 : Rd} {i : Nat} {l : List Rf} {a b c d : Int} (h : rUp s i = (l, t)) (h1 : rInt t 1099511627776 = (a, t1)) (h2 : rInt t1 1099511627776 = (b, t2)) (h3 : rInt t2 1099511627776 = (c, t3)) (h4 : rInt t3 1099511627776 = (d, t4)) : rUp s (i + 1) = (l ++ [⟨a, b, c, d⟩], t4) := by
  rw [rUp, h]
  simp only [rRef, maxNum, h1, h2, h3, h4]
theorem rInt_bs {s t : Rd} {m a : Int} (hs : s.Ok) (h : rInt s m = (a, t)) : t.bs = s.bs := by
  have := (rInt_ok hs m).2
  rw [h] at this
  exact this
end Go.Proofs.YtmhiekbpmoikfaaGreatDoor
namespace Go.Proofs.YtmhiekbpmoikfaaGreatDoor
open Go.RowKit Go.Maps Go.WideMaps
set_option linter.unusedSimpArgs false

/-- Bytes that a closure lets grow: they lie in the variable at vb, in a row from base on. -/
structure PutB (w0 : World) (vb base : Nat) (Q : Nm) (w : World) : Prop where
  kept : Kept (fun i => i = vb ∨ base ≤ i) w0 w
  row : ∃ v, Blk w vb 25 #[v] ∧ w.ownsRow base 5 1 v Q.length (Q.map byteV)
def intCells (xs : List Nat) : Array Value := (xs.map fun x : Nat => Value.int .i64 x).toArray
theorem putLs_len : ∀ xs : List Nat, (∀ x ∈ xs, x < 18446744073709551616) → (xs.flatMap putL).length ≤ 10 * xs.length
  | [], _ => by simp
  | x :: xs, h => by
    have h1 := putL_len x (h x (List.mem_cons_self ..))
    have h2 := putLs_len xs fun y hy => h y (List.mem_cons_of_mem _ hy)
    rw [List.flatMap_cons, List.length_append, List.length_cons]
    omega
set_option maxHeartbeats 8000000 in
set_option maxRecDepth 100000 in
theorem mqAdd_any (w : World) (vb base : Nat) (Q0 : Nm) (hP : PutB w vb base Q0 w) (hvb : vb < base) (hbw : base ≤ w.heap.size) (sg k c : Nat) (xs : List Nat) (hl : xs.length = k) (hs : Blk w sg 2 (intCells xs))
    (hk : k ≤ 100) (hx : ∀ x ∈ xs, x < 9223372036854775808) (hq : Q0.length ≤ 100000000000000) :
    Calls Tryz.prog 53 #[.slice (some ⟨sg, 0, none⟩) k c, .pointer (some ⟨vb, 0, none⟩)] w fun e w' => e = .returned (.tuple #[]) ∧ PutB w vb base (Q0 ++ xs.flatMap putL) w' := by
  obtain ⟨i0, hi0, hz0, hz1, hz2⟩ := info_parts byteInfo
  have HS := Lib.hid hs
  have HX := Lib.hid hx
  have HXL := Lib.hid hl
  have HP := Lib.hid hP
  clear hP hs hx hl
  go_enter Tryz.func53, Tryz.ntmps53
  go_wp2
  go_loopw [7] (fun iv wr => ∃ (i : Nat), i ≤ k ∧ iv = .int .i64 i ∧ Blk wr sg 2 (intCells xs) ∧ PutB w vb base (Q0 ++ (xs.take i).flatMap putL) wr) (fun iv _ => k - (intOf iv).toNat)
  case atStart => exact ⟨0, by omega, rfl, HS.out, by simpa using HP.out⟩
  case round =>
    obtain ⟨i, hi, rfl, hsb, hkr, vr, hV, hO⟩ := hrel
    have HSB := Lib.hid hsb
    have HKR := Lib.hid hkr
    have HV := Lib.hid hV
    obtain ⟨Q, hQ⟩ : ∃ Q, Q = Q0 ++ (xs.take i).flatMap putL := ⟨_, rfl⟩
    rw [← hQ] at hO
    obtain ⟨qn, hqn⟩ : ∃ qn, qn = Q.length := ⟨_, rfl⟩
    rw [← hqn] at hO
    have hql : qn ≤ 100000000001000 := by
      rw [hqn, hQ, List.length_append]
      have := putLs_len (xs.take i) fun x h => by have := HX.out x (List.mem_of_mem_take h); omega
      rw [List.length_take] at this
      omega
    have HO := Lib.hid hO
    have HQ := Lib.hid hQ
    have HQN := Lib.hid hqn
    have hsz := hkr.size
    clear hsb hkr hV hO hQ hqn
    rcases Nat.lt_or_ge i k with hlt | hge
    · have hlt' : (i : Int) < (k : Int) := by omega
      have pi : (0 : Int) ≤ (i : Int) := by omega
      obtain ⟨x, hxx⟩ : ∃ x, xs[i]? = some x := ⟨_, List.getElem?_eq_getElem (by rw [HXL.out]; exact hlt)⟩
      have hx64 : x < 18446744073709551616 := by have := HX.out x (List.mem_of_getElem? hxx); omega
      have hwx : IntKind.u64.wrap (x : Int) = (x : Int) := IntWalk.u64_in _ (by omega)
      have cx : wr.cell? ⟨sg, i, none⟩ = some (.int .i64 (x : Int)) := by
        have := HSB.out.cell i
        rw [this]
        unfold intCells
        rw [List.getElem?_toArray, List.getElem?_map, hxx]
        rfl
      obtain ⟨pn, hpn⟩ : ∃ pn, pn = (putL x).length := ⟨_, rfl⟩
      have HPN := Lib.hid hpn
      have hpl : pn ≤ 10 := by rw [hpn]; exact putL_len x hx64
      have HQX : Hid (Q0 ++ (xs.take (i + 1)).flatMap putL = Q ++ putL x) := Lib.hid (by rw [HQ.out, List.take_add_one, hxx]; simp)
      have HFIN : Hid (∀ (u : World) (v' : Value), u.ownsRow base 5 1 v' (qn + pn) (Q.map byteV ++ (putL x).map byteV) → Blk u vb 25 #[vr] → Kept (fun i => i = vb ∨ vr.ownBlock = some i) wr u → Blk (u.setCell ⟨vb, 0, none⟩ v') sg 2 (intCells xs) ∧ PutB w vb base (Q0 ++ (xs.take (i + 1)).flatMap putL) (u.setCell ⟨vb, 0, none⟩ v')) := Lib.hid (fun u v' h1 h2 h3 => by
        rw [HQX.out]
        have hne : sg ≠ vb := HSB.out.ne_ HV.out (by decide)
        refine ⟨?_, ?_, v', by simpa using h2.set_ 0 v', ?_⟩
        · have h4 : Blk u sg 2 (intCells xs) := HSB.out.kept h3 (by
            rintro (h | h)
            · exact hne h
            · exact own_blk_ne HO.out HSB.out (by decide) h)
          exact (heap_setCell_other _ _ _ (by simpa using hne)).trans h4
        · refine HKR.out.trans (h3.setCell (.inl (.inl rfl)) _) fun g hg hh => ?_
          rcases hh with rfl | hh
          · exact .inl rfl
          · exact .inr (HO.out.lt g hh).1
        · rw [List.length_append, List.map_append, ← HPN.out, ← HQN.out]
          exact ownsRow_block h1 fun g hg => heap_setCell_other _ _ _ (by have := (h1.lt g hg).1; simp only; omega))
      clear hpn hxx
      go_wp2_with fail
      refine wp_region_held_drew (S := fun _ => True) (by kernel_rfl) trivial (fun hHeld => ?_)
      obtain ⟨u0, hu0⟩ : ∃ zz, zz = wr.drew := ⟨_, rfl⟩
      try rw [← hu0] at hHeld
      rw [← hu0]
      have HB0 : Hid (Below wr.heap.size wr u0) := Lib.hid (by rw [hu0]; exact (Below.refl _ wr).drew)
      clear hu0
      refine wpAnyH_take (i := 1) (oi := ?oia11) (v := ?va11) ?hia11 (by kernel_rfl) (by kernel_rfl) (by kernel_rfl) ?hQa11 (Or.inl ⟨?hwa11, ?hya11⟩) (by assumption) ?resta11
      case hia11 => (first | (simp only [List.getElem?_toArray, List.getElem?_cons_zero, List.getElem?_cons_succ]; rfl) | rfl)
      case hQa11 => exact fun _ _ _ h => h
      case hwa11 => rfl
      case hya11 => ((intro w hSw; go_simp); first | done | with_reducible rfl)
      try simp only [Act.put, List.setIfInBounds_toArray, List.set_cons_zero, List.set_cons_succ]
      refine wpAnyH_take (i := 2) (oi := ?oia22) (v := ?va22) ?hia22 (by kernel_rfl) (by kernel_rfl) (by kernel_rfl) ?hQa22 (Or.inl ⟨?hwa22, ?hya22⟩) (by assumption) ?resta22
      case hia22 => (first | (simp only [List.getElem?_toArray, List.getElem?_cons_zero, List.getElem?_cons_succ]; rfl) | rfl)
      case hQa22 => exact fun _ _ _ h => h
      case hwa22 => rfl
      case hya22 => ((intro w hSw; go_simp); first | done | with_reducible rfl)
      try simp only [Act.put, List.setIfInBounds_toArray, List.set_cons_zero, List.set_cons_succ]
      refine wpAnyH_ready (rs := [0, 3]) (by kernel_rfl) (by simp) ?_
      refine AllReadyH.cons (o := ?oa3) ?ha3 ?sa3 (AllReadyH.cons (o := ?oa4) ?ha4 ?sa4 AllReadyH.nil)
      case ha3 => (simp only [List.getElem?_toArray, List.getElem?_cons_zero, List.getElem?_cons_succ]; rfl)
      case ha4 => (simp only [List.getElem?_toArray, List.getElem?_cons_zero, List.getElem?_cons_succ]; rfl)
      case sa3 =>
        intro K hK
        have yp1 := (HV.out.below HB0.out HV.out.lt).cell 0
        simp only [List.getElem?_toArray, List.getElem?_cons_zero, List.getElem?_cons_succ] at yp1
        go_simp
        clear yp1
        refine hK.out _ _ trivial (fun ha5 => ?_)
        clear hK K
        try simp only [Act.put, List.setIfInBounds_toArray, List.set_cons_zero, List.set_cons_succ]
        refine wpAnyH_ready (rs := [3]) (by kernel_rfl) (by simp) ?_
        refine AllReadyH.cons (o := ?oa6) ?ha6 ?sa6 AllReadyH.nil
        case ha6 => (simp only [List.getElem?_toArray, List.getElem?_cons_zero, List.getElem?_cons_succ]; rfl)
        case sa6 =>
          intro K hK
          go_simp
          refine (lPut_any u0 x hx64).mono ?_
          rintro e up2 ⟨vc, rfl, hop5, hbp6⟩
          rw [← HPN.out] at hop5
          obtain ⟨Ap3, cp4, rfl⟩ := own_slice hop5
          have HIp7 : Hid (BytesIn up2 Ap3 pn (putL x)) := Lib.hid (BytesIn.own hop5 (by unfold maxLen; omega))
          have Bp8 := Lib.hid (below_then HB0.out hbp6 HB0.out.size)
          clear hop5 hbp6
          go_wp2_with fail
          refine hK.out _ _ trivial (fun ha7 => ?_)
          clear hK K
          try simp only [Act.put, List.setIfInBounds_toArray, List.set_cons_zero, List.set_cons_succ]
          refine wpAnyH_ready (rs := [4]) (by kernel_rfl) (by simp) ?_
          refine AllReadyH.cons (o := ?oa8) ?ha8 ?sa8 AllReadyH.nil
          case ha8 => (simp only [List.getElem?_toArray, List.getElem?_cons_zero, List.getElem?_cons_succ]; rfl)
          case sa8 =>
            intro K hK
            refine step_append_src _ rfl (.tmp 11) (.tmp 14) 25 rfl base 5 i0 (.int .u8 0) 1 Tryz.underlying25 hi0 hz0 hz1 hz2 rfl vr qn (Q.map byteV) rfl (ownsRow_block HO.out fun g hg => Bp8.out.block g (HO.out.lt g hg).2) Ap3 pn cp4 ((putL x).map byteV) rfl HIp7.out.2.1 (u8_one (putL x)) (by unfold maxLen; omega) (by omega) (by have := Bp8.out.size; omega) ?_
            intro vp10 up9 hwp11 hgp12 hlp13
            have Gp14 : Hid (Kept (fun i => i = vb ∨ vr.ownBlock = some i) wr up9) := Lib.hid ((Kept.below Bp8.out).grown hgp12 (fun k e0 => .inl (.inr e0)))
            have Vp16 := Lib.hid ((HV.out.below Bp8.out HV.out.lt).grown hgp12 (fun e0 => by have := (HO.out.lt vb e0.symm).1; omega))
            obtain ⟨vp10A, vp10c, rfl⟩ := own_slice hwp11
            have Op15 := Lib.hid hwp11
            clear hwp11 hgp12 hlp13
            refine hK.out _ _ trivial (fun ha9 => ?_)
            clear hK K
            try simp only [Act.put, List.setIfInBounds_toArray, List.set_cons_zero, List.set_cons_succ]
            refine wpAnyH_ready (rs := [5]) (by kernel_rfl) (by simp) ?_
            refine AllReadyH.cons (o := ?oa10) ?ha10 ?sa10 AllReadyH.nil
            case ha10 => (simp only [List.getElem?_toArray, List.getElem?_cons_zero, List.getElem?_cons_succ]; rfl)
            case sa10 =>
              intro K hK
              have yp17 := Vp16.out.cell 0
              have zp18 := Vp16.out.frozen 0
              simp only [List.getElem?_toArray, List.getElem?_cons_zero, List.getElem?_cons_succ] at yp17
              go_simp
              clear yp17 zp18
              refine hK.out _ _ trivial (fun ha11 => ?_)
              clear hK K
              try simp only [Act.put, List.setIfInBounds_toArray, List.set_cons_zero, List.set_cons_succ]
              refine wpAnyH_done (by kernel_rfl) ?_ _
              have HF := Lib.hid (HFIN.out up9 (.slice vp10A (qn + pn) vp10c) Op15.out Vp16.out Gp14.out)
              go_wp2
              go_roundw
              case rel => exact ⟨i + 1, by omega, by go_num, HF.out⟩
              case measure => simp [intOf]; omega
      case sa4 =>
        intro K hK
        go_simp
        refine (lPut_any u0 x hx64).mono ?_
        rintro e up19 ⟨vc, rfl, hop22, hbp23⟩
        rw [← HPN.out] at hop22
        obtain ⟨Ap20, cp21, rfl⟩ := own_slice hop22
        have HIp24 : Hid (BytesIn up19 Ap20 pn (putL x)) := Lib.hid (BytesIn.own hop22 (by unfold maxLen; omega))
        have Bp25 := Lib.hid (below_then HB0.out hbp23 HB0.out.size)
        clear hop22 hbp23
        go_wp2_with fail
        refine hK.out _ _ trivial (fun ha12 => ?_)
        clear hK K
        try simp only [Act.put, List.setIfInBounds_toArray, List.set_cons_zero, List.set_cons_succ]
        refine wpAnyH_ready (rs := [0]) (by kernel_rfl) (by simp) ?_
        refine AllReadyH.cons (o := ?oa13) ?ha13 ?sa13 AllReadyH.nil
        case ha13 => (simp only [List.getElem?_toArray, List.getElem?_cons_zero, List.getElem?_cons_succ]; rfl)
        case sa13 =>
          intro K hK
          have yp26 := (HV.out.below Bp25.out HV.out.lt).cell 0
          simp only [List.getElem?_toArray, List.getElem?_cons_zero, List.getElem?_cons_succ] at yp26
          go_simp
          clear yp26
          refine hK.out _ _ trivial (fun ha14 => ?_)
          clear hK K
          try simp only [Act.put, List.setIfInBounds_toArray, List.set_cons_zero, List.set_cons_succ]
          refine wpAnyH_ready (rs := [4]) (by kernel_rfl) (by simp) ?_
          refine AllReadyH.cons (o := ?oa15) ?ha15 ?sa15 AllReadyH.nil
          case ha15 => (simp only [List.getElem?_toArray, List.getElem?_cons_zero, List.getElem?_cons_succ]; rfl)
          case sa15 =>
            intro K hK
            refine step_append_src _ rfl (.tmp 11) (.tmp 14) 25 rfl base 5 i0 (.int .u8 0) 1 Tryz.underlying25 hi0 hz0 hz1 hz2 rfl vr qn (Q.map byteV) rfl (ownsRow_block HO.out fun g hg => Bp25.out.block g (HO.out.lt g hg).2) Ap20 pn cp21 ((putL x).map byteV) rfl HIp24.out.2.1 (u8_one (putL x)) (by unfold maxLen; omega) (by omega) (by have := Bp25.out.size; omega) ?_
            intro vp28 up27 hwp29 hgp30 hlp31
            have Gp32 : Hid (Kept (fun i => i = vb ∨ vr.ownBlock = some i) wr up27) := Lib.hid ((Kept.below Bp25.out).grown hgp30 (fun k e0 => .inl (.inr e0)))
            have Vp34 := Lib.hid ((HV.out.below Bp25.out HV.out.lt).grown hgp30 (fun e0 => by have := (HO.out.lt vb e0.symm).1; omega))
            obtain ⟨vp28A, vp28c, rfl⟩ := own_slice hwp29
            have Op33 := Lib.hid hwp29
            clear hwp29 hgp30 hlp31
            refine hK.out _ _ trivial (fun ha16 => ?_)
            clear hK K
            try simp only [Act.put, List.setIfInBounds_toArray, List.set_cons_zero, List.set_cons_succ]
            refine wpAnyH_ready (rs := [5]) (by kernel_rfl) (by simp) ?_
            refine AllReadyH.cons (o := ?oa17) ?ha17 ?sa17 AllReadyH.nil
            case ha17 => (simp only [List.getElem?_toArray, List.getElem?_cons_zero, List.getElem?_cons_succ]; rfl)
            case sa17 =>
              intro K hK
              have yp35 := Vp34.out.cell 0
              have zp36 := Vp34.out.frozen 0
              simp only [List.getElem?_toArray, List.getElem?_cons_zero, List.getElem?_cons_succ] at yp35
              go_simp
              clear yp35 zp36
              refine hK.out _ _ trivial (fun ha18 => ?_)
              clear hK K
              try simp only [Act.put, List.setIfInBounds_toArray, List.set_cons_zero, List.set_cons_succ]
              refine wpAnyH_done (by kernel_rfl) ?_ _
              have HF := Lib.hid (HFIN.out up27 (.slice vp28A (qn + pn) vp28c) Op33.out Vp34.out Gp32.out)
              go_wp2
              go_roundw
              case rel => exact ⟨i + 1, by omega, by go_num, HF.out⟩
              case measure => simp [intOf]; omega
    · obtain rfl : i = k := by omega
      have hlz : ¬ ((i : Int) < (i : Int)) := by omega
      have HE : Hid (Q0 ++ xs.flatMap putL = Q) := Lib.hid (by rw [HQ.out, List.take_of_length_le (by rw [HXL.out]; omega)])
      go_wp2
      go_end0
      refine ⟨rfl, HKR.out, vr, HV.out, ?_⟩
      rw [HE.out, ← HQN.out]
      exact HO.out
end Go.Proofs.YtmhiekbpmoikfaaGreatDoor
namespace Go.Proofs.YtmhiekbpmoikfaaGreatDoor

def pFit (next least : Int) (r : Rf) : Prop := ((least ≤ r.num ∧ r.num ≤ next - 1) ∧ (0 ≤ r.docs ∧ r.docs ≤ 64)) ∧ ((0 ≤ r.level ∧ r.level ≤ 16) ∧ (0 ≤ r.dels ∧ r.dels ≤ next - 1))
instance (next least : Int) (r : Rf) : Decidable (pFit next least r) := by unfold pFit; infer_instance
/-- The least number that may come at place i. -/
def pLeast (l : List Rf) (i : Nat) : Int := if i = 0 then 1 else (l.getD (i - 1) refZ).num + 1
/-- Are the first k references such as may be, one by one? -/
def pAre (next : Int) (l : List Rf) (k : Nat) : Prop := ∀ i, i < k → pFit next (pLeast l i) (l.getD i refZ)
instance (next : Int) (l : List Rf) (k : Nat) : Decidable (pAre next l k) := by unfold pAre; infer_instance
def pNum1 (r : Rf) : List Int := if r.dels ≠ 0 then [r.num, r.dels] else [r.num]
def pNums (l : List Rf) : List Int := l.flatMap pNum1
theorem pNums_snoc (l : List Rf) (r : Rf) : pNums (l ++ [r]) = pNums l ++ pNum1 r := by simp [pNums]
theorem pNums_len (l : List Rf) : (pNums l).length ≤ 2 * l.length := by
  induction l with
  | nil => simp [pNums]
  | cons r l ih =>
    have e : pNums (r :: l) = pNum1 r ++ pNums l := by simp [pNums]
    rw [e, List.length_append, List.length_cons]
    have : (pNum1 r).length ≤ 2 := by unfold pNum1; split <;> simp
    omega
theorem known_iff {l : List Rf} {n : Int} (hn : n ≠ 0) : knownL l n = false ↔ n ∉ pNums l := by
  induction l with
  | nil => simp [knownL, pNums]
  | cons r l ih =>
    have e1 : knownL (r :: l) n = (((r.num == n) || (r.dels == n)) || knownL l n) := by simp [knownL]
    have e2 : pNums (r :: l) = pNum1 r ++ pNums l := by simp [pNums]
    rw [e1, e2, Bool.or_eq_false_iff, ih, List.mem_append]
    have h1 : ((r.num == n) || (r.dels == n)) = false ↔ n ∉ pNum1 r := by
      unfold pNum1
      split
      · simp only [Bool.or_eq_false_iff, beq_eq_false_iff_ne, List.mem_cons, List.not_mem_nil]
        constructor
        · rintro ⟨a, b⟩ (c | c | c)
          · exact a c.symm
          · exact b c.symm
          · exact c
        · intro h
          exact ⟨fun e => h (.inl e.symm), fun e => h (.inr (.inl e.symm))⟩
      · rename_i h0
        have h0 : r.dels = 0 := by simpa using h0
        rw [h0]
        simp only [Bool.or_eq_false_iff, beq_eq_false_iff_ne, List.mem_singleton]
        constructor
        · rintro ⟨a, b⟩ c
          exact a c.symm
        · intro h
          exact ⟨fun e => h e.symm, fun e => hn e.symm⟩
    rw [h1]
    constructor
    · rintro ⟨a, b⟩ (c | c)
      · exact a c
      · exact b c
    · intro h
      exact ⟨fun c => h (.inl c), fun c => h (.inr c)⟩
/-- What is asked of place i beside that: no number twice. -/
def pNew (l : List Rf) (i : Nat) : Prop :=
  (l.getD i refZ).dels ≠ (l.getD i refZ).num ∧ knownL (l.take i) (l.getD i refZ).num = false ∧ ((l.getD i refZ).dels ≤ 0 ∨ knownL (l.take i) (l.getD i refZ).dels = false)
theorem getD_snoc {l : List Rf} {k : Nat} (hk : k < l.length) : l.take (k + 1) = l.take k ++ [l.getD k refZ] := by
  rw [List.take_add_one, List.getD_eq_getElem?_getD, List.getElem?_eq_getElem hk]
  rfl
theorem pNew_iff {l : List Rf} (hp : ∀ i, i < l.length → 1 ≤ (l.getD i refZ).num ∧ 0 ≤ (l.getD i refZ).dels) : ∀ k, k ≤ l.length → ((pNums (l.take k)).Nodup ↔ ∀ i, i < k → pNew l i)
  | 0, _ => by simp [pNums]
  | k + 1, hk => by
    have ih := pNew_iff hp k (by omega)
    rw [getD_snoc (by omega), pNums_snoc]
    obtain ⟨h1, h2⟩ := hp k (by omega)
    obtain ⟨r, hr⟩ : ∃ r, r = l.getD k refZ := ⟨_, rfl⟩
    rw [← hr] at h1 h2 ⊢
    have hone : (pNums (l.take k) ++ pNum1 r).Nodup ↔ (pNums (l.take k)).Nodup ∧ pNew l k := by
      unfold pNew
      rw [← hr]
      rw [known_iff (show r.num ≠ 0 by omega)]
      unfold pNum1
      by_cases h0 : r.dels = 0
      · rw [if_neg (by simpa using h0), List.nodup_append]
        constructor
        · rintro ⟨a, _, c⟩
          exact ⟨a, by omega, fun e => c _ e _ (by simp) rfl, .inl (by omega)⟩
        · rintro ⟨a, _, c, _⟩
          exact ⟨a, by simp, fun x hx y hy e => by
            have hy := List.mem_singleton.1 hy
            subst e
            subst hy
            exact c hx⟩
      · rw [if_pos h0, List.nodup_append, known_iff h0]
        constructor
        · rintro ⟨a, b, c⟩
          refine ⟨a, fun e => ?_, fun e => c _ e _ (by simp) rfl, .inr fun e => c _ e _ (by simp) rfl⟩
          rw [e] at b
          simp at b
        · rintro ⟨a, b, c, d⟩
          refine ⟨a, by simpa using fun e => b e.symm, fun x hx y hy e => ?_⟩
          subst e
          rcases List.mem_cons.1 hy with e | e
          · exact c (e ▸ hx)
          · have e := List.mem_singleton.1 e
            rcases d with d | d
            · omega
            · exact d (e ▸ hx)
    rw [hone, ih]
    constructor
    · rintro ⟨a, b⟩ i hi
      rcases Nat.lt_or_ge i k with h | h
      · exact a i h
      · obtain rfl : i = k := by omega
        exact b
    · intro h
      exact ⟨fun i hi => h i (by omega), h k (by omega)⟩
/-- The program's Check asks what the document's does. -/
theorem mOk_iff (m : Mf) : mOk m ↔ mTop m ∧ pAre m.next m.refs m.refs.length ∧ (pNums m.refs).Nodup := by
  unfold mOk
  refine and_congr_right fun ht => ?_
  have key : ∀ (hp : ∀ i, i < m.refs.length → 1 ≤ (m.refs.getD i refZ).num ∧ 0 ≤ (m.refs.getD i refZ).dels), ((pNums m.refs).Nodup ↔ ∀ i, i < m.refs.length → pNew m.refs i) := fun hp => by
    have := pNew_iff hp m.refs.length (Nat.le_refl _)
    rwa [List.take_length] at this
  constructor
  · intro h
    have hA : pAre m.next m.refs m.refs.length := by
      intro i hi
      have h1 := h i hi
      unfold refOk at h1
      unfold pFit pLeast
      obtain ⟨⟨a1, a2, a3, a4, a5, a6, a7⟩, b1, b2, b3, b4, b5⟩ := h1
      refine ⟨⟨⟨?_, by omega⟩, a4, a5⟩, ⟨a6, a7⟩, b1, by omega⟩
      split
      · exact a1
      · have := a3 (by omega); omega
    refine ⟨hA, (key fun i hi => ?_).2 fun i hi => ?_⟩
    · have h1 := h i hi
      unfold refOk at h1
      exact ⟨h1.1.1, h1.2.1⟩
    · have h1 := h i hi
      unfold refOk at h1
      exact ⟨h1.2.2.2.1, h1.2.2.2.2.1, h1.2.2.2.2.2⟩
  · rintro ⟨hA, hN⟩
    have hpos : ∀ i, i < m.refs.length → 1 ≤ (m.refs.getD i refZ).num := by
      intro i
      induction i with
      | zero =>
        intro hi
        have := hA 0 hi
        unfold pFit pLeast at this
        simpa using this.1.1.1
      | succ j ih =>
        intro hi
        have h1 := ih (by omega)
        have := (hA (j + 1) hi).1.1.1
        unfold pLeast at this
        rw [if_neg (by omega)] at this
        simp only [Nat.add_sub_cancel] at this
        omega
    have hN' := (key fun i hi => ⟨hpos i hi, (hA i hi).2.2.1⟩).1 hN
    intro i hi
    obtain ⟨⟨⟨a1, a2⟩, a3, a4⟩, ⟨a5, a6⟩, a7, a8⟩ := hA i hi
    obtain ⟨b1, b2, b3⟩ := hN' i hi
    unfold refOk
    refine ⟨⟨hpos i hi, by omega, fun h0 => ?_, a3, a4, a5, a6⟩, a7, by omega, b1, b2, b3⟩
    unfold pLeast at a1
    rw [if_neg (by omega)] at a1
    omega
end Go.Proofs.YtmhiekbpmoikfaaGreatDoor
namespace Go.Proofs.YtmhiekbpmoikfaaGreatDoor
open Go.RowKit Go.Maps Go.WideMaps Go.Sort
set_option linter.unusedSimpArgs false

theorem kept_nodup {s : List Int} (hs : s.Pairwise (fun a b => a ≤ b)) (hk : ∀ j, j < s.length → Lib.keeps s.toArray j = true) : s.Nodup := by
  have hg : ∀ i, i < s.length → s.toArray[i]! = s.getD i 0 := fun i hi => by simp [getElem!_pos, hi, List.getD_eq_getElem?_getD]
  have hle := List.pairwise_iff_getElem.1 hs
  refine List.pairwise_iff_getElem.2 fun i j hi hj hij => ?_
  have h1 := hk j hj
  unfold Lib.keeps at h1
  simp only [decide_eq_true_eq] at h1
  rcases h1 with h1 | h1
  · omega
  · rw [hg j hj, hg (j - 1) (by omega)] at h1
    simp only [List.getD_eq_getElem?_getD, List.getElem?_eq_getElem hj, List.getElem?_eq_getElem (show j - 1 < s.length by omega), Option.getD_some] at h1
    have h2 := hle (j - 1) j (by omega) hj (by omega)
    have h3 : s[i] ≤ s[j - 1] := by
      rcases Nat.lt_or_ge i (j - 1) with h | h
      · exact hle i (j - 1) hi (by omega) h
      · have : i = j - 1 := by omega
        subst this
        exact Int.le_refl _
    omega
theorem nodup_kept {s : List Int} (hs : s.Nodup) : ∀ j, j < s.length → Lib.keeps s.toArray j = true := by
  intro j hj
  unfold Lib.keeps
  simp only [decide_eq_true_eq]
  by_cases h0 : j = 0
  · exact .inl h0
  · refine .inr fun e => ?_
    have hg : ∀ i, i < s.length → s.toArray[i]! = s.getD i 0 := fun i hi => by simp [getElem!_pos, hi, List.getD_eq_getElem?_getD]
    rw [hg j hj, hg (j - 1) (by omega)] at e
    simp only [List.getD_eq_getElem?_getD, List.getElem?_eq_getElem hj, List.getElem?_eq_getElem (show j - 1 < s.length by omega), Option.getD_some] at e
    exact List.pairwise_iff_getElem.1 hs (j - 1) j (by omega) hj (by omega) e.symm
theorem compact_lt (s : List Int) (hs : s.Pairwise (fun a b => a ≤ b)) : (Lib.compact s).length < s.length ↔ ¬ s.Nodup := by
  constructor
  · intro h hn
    rw [Lib.compact_all s (nodup_kept hn)] at h
    omega
  · intro h
    have hx : ¬ ∀ j, j < s.length → Lib.keeps s.toArray j = true := fun hk => h (kept_nodup hs hk)
    obtain ⟨j, hj⟩ := Classical.not_forall.1 hx
    obtain ⟨hj, hk⟩ := Classical.not_imp.1 hj
    unfold Lib.compact Lib.compactUpTo
    rw [List.length_map]
    have := List.length_filter_lt_length_iff_exists.2 ⟨j, List.mem_range.2 hj, hk⟩
    rwa [List.length_range] at this
theorem sort_nodup (l : List Int) : ((l.mergeSort fun x y => decide (x ≤ y)).length = l.length) ∧ ((l.mergeSort fun x y => decide (x ≤ y)).Nodup ↔ l.Nodup) ∧ (l.mergeSort fun x y => decide (x ≤ y)).Pairwise (fun a b => a ≤ b) := by
  have hp := List.mergeSort_perm l (fun x y => decide (x ≤ y))
  refine ⟨hp.length_eq, hp.nodup_iff, ?_⟩
  have h := List.pairwise_mergeSort (le := fun x y : Int => decide (x ≤ y)) (fun a b c h1 h2 => by simp only [decide_eq_true_eq] at *; omega) (fun a b => by simp only [Bool.or_eq_true, decide_eq_true_eq]; omega) l
  exact h.imp fun h => by simpa using h
theorem putRow_block {α : Type} [Inhabited α] (enc : α → Value) (w : World) (blk off k : Nat) (d : Array α) (h : k ≠ blk) : (putRow enc w blk off d).heap[k]? = w.heap[k]? := by
  unfold putRow mapBlock
  simp only
  rw [Array.getElem?_modify]
  rw [if_neg (fun e => h e.symm)]
theorem putRow_below {α : Type} [Inhabited α] (enc : α → Value) {w0 w : World} (blk off n base : Nat) (d : Array α) (hb : Below base w0 w) (h : base ≤ blk) : Below base w0 (putRow enc (Sort.ahead w n) blk off d) :=
  ⟨hb.os, hb.tape, hb.output, by rw [size_putRow]; exact hb.size, fun k hk => by rw [putRow_block _ _ _ _ _ _ (by omega)]; exact hb.block k hk⟩

set_option maxHeartbeats 4000000 in
set_option maxRecDepth 100000 in
theorem twice_any (w : World) (base : Nat) (v : Value) (l : List Int) (h : w.ownsRow base 2 1 v l.length (l.map (Value.int .i64))) (hl : l.length ≤ 1000) :
    Calls Tryz.prog 66 #[v] w fun e w' => e = .returned (.bool (decide (¬ l.Nodup))) ∧ Below base w w' := by
  obtain ⟨n, hn⟩ : ∃ n, n = l.length := ⟨_, rfl⟩
  rcases h.2 with ⟨rfl, h0⟩ | ⟨g, cap, cur, rfl, hbs, hblk, hnc, hcm, hcs, hx⟩
  · have e : l = [] := List.eq_nil_of_length_eq_zero h0
    subst e
    have HC1 : Hid (Calls Tryz.prog 122 #[.slice none 0 0] w fun e w' => e = .returned (.tuple #[]) ∧ w' = w) := Lib.hid (Calls.mono (f := 122) (AnyG.slices_Sort_int_none Tryz.sort64 none 0 w) fun e w' hh => hh)
    have HC2 : Hid (Calls Tryz.prog 123 #[.slice none 0 0] w fun e w' => e = .returned (.slice none 0 0) ∧ w' = w) := Lib.hid (Calls.mono (f := 123) (AnyG.slices_Compact_int_empty Tryz.compact64 none 0 w) fun e w' hh => hh)
    clear h hl hn h0
    go_enter Tryz.func66, Tryz.ntmps66
    go_wp2_with fail
    refine HC1.out.mono ?_
    rintro e w' ⟨rfl, rfl⟩
    go_wp2_with fail
    refine HC2.out.mono ?_
    rintro e w2 ⟨rfl, rfl⟩
    go_wp2
    go_ret
    exact ⟨rfl, Below.refl _ _⟩
  · obtain ⟨q1, q2, q3⟩ := sort_nodup l
    obtain ⟨s, hs⟩ : ∃ s, s = l.mergeSort fun x y => decide (x ≤ y) := ⟨_, rfl⟩
    have hH : Holds (Value.int .i64) w g 0 l.toArray := fun j hj => by
      have hj' : j < l.length := by simpa using hj
      refine ⟨?_, Blk.frozen hblk _⟩
      have := h.cells (g := g) (by rfl) j _ (by rw [List.getElem?_map, List.getElem?_eq_getElem hj']; rfl)
      rw [Addr.add_mid, Nat.zero_add] at this
      rw [Nat.zero_add, this]
      simp [getElem!_pos, hj']
    have hsort := AnyG.slices_Sort_int Tryz.sort64 g 0 cap l w hH (Blk.lt hblk) (by omega)
    rw [← hs] at hsort q1 q2 q3
    have hcl := compact_lt s q3
    rw [q1] at hcl
    rw [← hn] at hsort q1 hcl ⊢
    have HC1 : Hid (Calls Tryz.prog 122 #[.slice (some ⟨g, 0, none⟩) n cap] w fun e w' => e = .returned (.tuple #[]) ∧ ∃ m os, w' = grow (putRow (Value.int .i64) (Sort.ahead w m) g 0 s.toArray) os) := Lib.hid (Calls.mono (f := 122) hsort fun e w' hh => hh)
    have HC2a : ∀ m os, (Calls Tryz.prog 123 #[.slice (some ⟨g, 0, none⟩) n cap] (grow (putRow (Value.int .i64) (Sort.ahead w m) g 0 s.toArray) os) fun e w' => e = .returned (.slice (some ⟨g, 0, none⟩) (Lib.compact s).length cap) ∧ Below base w w') := fun m os => (by
      have hB1 : Below base w (grow (putRow (Value.int .i64) (Sort.ahead w m) g 0 s.toArray) os) := by
        have h1 := putRow_below (Value.int .i64) g 0 m base s.toArray (Below.refl base w) hbs
        have hbw := Blk.lt hblk
        refine h1.trans ?_
        have := Lib.below_grow base (putRow (Value.int .i64) (Sort.ahead w m) g 0 s.toArray) (by rw [size_putRow]; show base ≤ w.heap.size; omega) 0 os
        exact this
      have hH2 : Holds (Value.int .i64) (grow (putRow (Value.int .i64) (Sort.ahead w m) g 0 s.toArray) os) g 0 s.toArray := fun j hj => by
        have h2 := holds_putRow (Value.int .i64) (Sort.ahead w m) g 0 l.toArray s.toArray (fun j hj => hH j hj) (by simp; omega) j hj
        have hbw := Blk.lt hblk
        rw [cell?_grow _ _ _ (by rw [size_putRow]; exact hbw), frozen?_grow _ _ _ (by rw [size_putRow]; exact hbw)]
        exact h2
      have hc := AnyG.slices_Compact_int Tryz.compact64 g 0 cap s (grow (putRow (Value.int .i64) (Sort.ahead w m) g 0 s.toArray) os) hH2 (by omega) (by omega)
      rw [q1] at hc
      refine Calls.mono (f := 123) hc ?_
      rintro e w' ⟨rfl, q, rfl⟩
      exact ⟨rfl, putRow_below (Value.int .i64) g 0 q base _ hB1 hbs⟩)
    obtain ⟨k, hk⟩ : ∃ k, k = (Lib.compact s).length := ⟨_, rfl⟩
    rw [← hk] at hcl
    have HC2 := Lib.hid HC2a
    rw [← hk] at HC2
    clear HC2a
    have HD : Hid (decide (k < n) = decide (¬ l.Nodup)) := Lib.hid (decide_eq_decide.2 (hcl.trans (not_congr q2)))
    clear hk hcl hs q1 q2 q3 hsort hH hx hcs hcm hnc hblk hbs h hl hn
    go_enter Tryz.func66, Tryz.ntmps66
    go_wp2_with fail
    refine HC1.out.mono ?_
    rintro e w' ⟨rfl, m, os, rfl⟩
    have HC3 := Lib.hid (HC2.out m os)
    obtain ⟨W, hW⟩ : ∃ W, W = grow (putRow (Value.int .i64) (Sort.ahead w m) g 0 s.toArray) os := ⟨_, rfl⟩
    rw [← hW] at HC3 ⊢
    clear hW HC2 HC1
    go_wp2_with fail
    refine HC3.out.mono ?_
    rintro e w2 ⟨rfl, hb⟩
    have HB := Lib.hid hb
    clear hb HC3
    go_wp2
    go_ret
    rw [← HD.out]
    exact ⟨rfl, HB.out⟩
end Go.Proofs.YtmhiekbpmoikfaaGreatDoor
namespace Go.Proofs.YtmhiekbpmoikfaaGreatDoor
open Go.RowKit Go.Maps Go.WideMaps
set_option linter.unusedSimpArgs false

set_option maxHeartbeats 1000000 in
set_option maxRecDepth 100000 in
theorem within_any (w : World) (n a b : Int) :
    Calls Tryz.prog 64 #[.int .i64 n, .int .i64 a, .int .i64 b] w fun e w' => e = .returned (.bool (decide (a ≤ n ∧ n ≤ b))) ∧ w' = w := by
  obtain ⟨t, ht⟩ : ∃ t, t = decide (a ≤ n ∧ n ≤ b) := ⟨_, rfl⟩
  rw [← ht]
  by_cases h1 : a ≤ n
  · by_cases h2 : n ≤ b
    · have HD : Hid (t = true) := Lib.hid (by rw [ht]; simp [h1, h2])
      clear ht
      go_enter Tryz.func64, Tryz.ntmps64
      go_wp2
      go_ret
      exact ⟨by rw [HD.out]; rfl, rfl⟩
    · have HD : Hid (t = false) := Lib.hid (by rw [ht]; simp [h2])
      clear ht
      go_enter Tryz.func64, Tryz.ntmps64
      go_wp2
      go_ret
      exact ⟨by rw [HD.out]; rfl, rfl⟩
  · have HD : Hid (t = false) := Lib.hid (by rw [ht]; simp [h1])
    clear ht
    go_enter Tryz.func64, Tryz.ntmps64
    go_wp2
    go_ret
    exact ⟨by rw [HD.out]; rfl, rfl⟩
theorem pAre_succ (next : Int) (L : List Rf) (k : Nat) : pAre next L (k + 1) ↔ pAre next L k ∧ pFit next (pLeast L k) (L.getD k refZ) := by
  unfold pAre
  constructor
  · intro h
    exact ⟨fun i hi => h i (by omega), h k (by omega)⟩
  · rintro ⟨h1, h2⟩ i hi
    rcases Nat.lt_or_ge i k with h | h
    · exact h1 i h
    · obtain rfl : i = k := by omega
      exact h2
theorem pAre_mono {next : Int} {L : List Rf} {k n : Nat} (h : pAre next L n) (hk : k ≤ n) : pAre next L k := fun i hi => h i (by omega)

set_option maxHeartbeats 8000000 in
set_option maxRecDepth 100000 in
theorem areRefs_any (w : World) (A : Option Addr) (n c : Nat) (L : List Rf) (h : RefsIn w A n L) (hn : n ≤ 100000) (x : Int) (hx : 1 ≤ x ∧ x ≤ 9223372036854775807) :
    Calls Tryz.prog 65 #[.slice A n c, .int .i64 x] w fun e w' => e = .returned (.bool (decide (pAre x L n))) ∧ Below w.heap.size w w' := by
  have HI := Lib.hid h
  obtain ⟨T, hT⟩ : ∃ T, T = decide (pAre x L n) := ⟨_, rfl⟩
  have HT := Lib.hid hT
  rw [← hT]
  have hwx : IntKind.i64.wrap (x - 1) = x - 1 := IntWalk.i64_in _ (by omega)
  clear h hT
  go_enter Tryz.func65, Tryz.ntmps65
  go_wp2
  go_loopw [5, 10] (fun lv iv wr => ∃ (i : Nat), i ≤ n ∧ lv = .int .i64 (pLeast L i) ∧ iv = .int .i64 i ∧ pAre x L i ∧ Below w.heap.size w wr) (fun _ iv _ => n - (intOf iv).toNat)
  case atStart => exact ⟨0, by omega, rfl, rfl, fun i hi => by omega, Below.refl _ _⟩
  case round =>
    obtain ⟨i, hi, rfl, rfl, hp, hb⟩ := hrel
    have HP := Lib.hid hp
    have HB := Lib.hid hb
    have hsz := hb.size
    clear hp hb
    rcases Nat.lt_or_ge i n with hlt | hge
    · have hlt' : (i : Int) < (n : Int) := by omega
      have pi : (0 : Int) ≤ (i : Int) := by omega
      obtain ⟨r, hr⟩ : ∃ r, L[i]? = some r := ⟨_, List.getElem?_eq_getElem (by rw [HI.out.len]; exact hlt)⟩
      obtain ⟨pa, rfl, -, c0, c1, c2, c3, f0, f1, f2, f3⟩ := (HI.out.below HB.out).at_ i r hr
      have hgd : L.getD i refZ = r := by rw [List.getD_eq_getElem?_getD, hr]; rfl
      have HPF : Hid (pAre x L (i + 1) ↔ pAre x L i ∧ pFit x (pLeast L i) r) := Lib.hid (by rw [pAre_succ, hgd])
      have HLE : Hid (pLeast L (i + 1) = r.num + 1) := Lib.hid (by unfold pLeast; rw [if_neg (by omega), Nat.add_sub_cancel, hgd])
      obtain ⟨le, hle⟩ : ∃ le, le = pLeast L i := ⟨_, rfl⟩
      rw [← hle] at HPF ⊢
      have HBN : Hid (Below w.heap.size w (wr.alloc (.cells #[.int .i64 r.num, .int .i64 r.docs, .int .i64 r.level, .int .i64 r.dels] 88))) := Lib.hid (HB.out.alloc hsz _)
      clear hr hgd hle
      have HF0 := Lib.hid f0
      have HNO : Hid (¬ pFit x le r → T = false) := Lib.hid (fun hnf => by
        rw [HT.out]
        exact decide_eq_false fun h => hnf ((HPF.out.1 (pAre_mono h (by omega))).2))
      clear f0 f1 f2 f3
      obtain ⟨t0, ht0⟩ : ∃ t, t = decide (le ≤ r.num ∧ r.num ≤ x - 1) := ⟨_, rfl⟩
      have HW0 := Lib.hid (within_any (wr.alloc (.cells #[.int .i64 r.num, .int .i64 r.docs, .int .i64 r.level, .int .i64 r.dels] 88)) r.num le (x - 1))
      rw [← ht0] at HW0
      cases t0 with
      | false =>
        have HE : Hid (T = false) := Lib.hid (HNO.out fun h => of_decide_eq_false ht0.symm h.1.1)
        clear ht0
        go_wp2_with fail
        refine HW0.out.mono ?_
        rintro e w2 ⟨rfl, e2⟩
        subst e2
        go_wp2
        go_ret
        exact ⟨by rw [HE.out]; rfl, HBN.out⟩
      | true =>
        have HT0 := Lib.hid (of_decide_eq_true ht0.symm)
        clear ht0
        go_wp2_with fail
        refine HW0.out.mono ?_
        rintro e w2 ⟨rfl, e2⟩
        have e3 := e2.symm
        subst e3
        clear e2 HW0
        obtain ⟨t1, ht1⟩ : ∃ t, t = decide (0 ≤ r.docs ∧ r.docs ≤ 64) := ⟨_, rfl⟩
        have HW1 := Lib.hid (within_any (wr.alloc (.cells #[.int .i64 r.num, .int .i64 r.docs, .int .i64 r.level, .int .i64 r.dels] 88)) r.docs 0 64)
        rw [← ht1] at HW1
        cases t1 with
        | false =>
          have HE : Hid (T = false) := Lib.hid (HNO.out fun h => of_decide_eq_false ht1.symm h.1.2)
          clear ht1
          go_wp2_with fail
          refine HW1.out.mono ?_
          rintro e w2 ⟨rfl, e2⟩
          subst e2
          go_wp2
          go_ret
          exact ⟨by rw [HE.out]; rfl, HBN.out⟩
        | true =>
          have HT1 := Lib.hid (of_decide_eq_true ht1.symm)
          clear ht1
          go_wp2_with fail
          refine HW1.out.mono ?_
          rintro e w2 ⟨rfl, e2⟩
          have e3 := e2.symm
          subst e3
          clear e2 HW1
          obtain ⟨t2, ht2⟩ : ∃ t, t = decide (0 ≤ r.level ∧ r.level ≤ 16) := ⟨_, rfl⟩
          have HW2 := Lib.hid (within_any (wr.alloc (.cells #[.int .i64 r.num, .int .i64 r.docs, .int .i64 r.level, .int .i64 r.dels] 88)) r.level 0 16)
          rw [← ht2] at HW2
          cases t2 with
          | false =>
            have HE : Hid (T = false) := Lib.hid (HNO.out fun h => of_decide_eq_false ht2.symm h.2.1)
            clear ht2
            go_wp2_with fail
            refine HW2.out.mono ?_
            rintro e w2 ⟨rfl, e2⟩
            subst e2
            go_wp2
            go_ret
            exact ⟨by rw [HE.out]; rfl, HBN.out⟩
          | true =>
            have HT2 := Lib.hid (of_decide_eq_true ht2.symm)
            clear ht2
            go_wp2_with fail
            refine HW2.out.mono ?_
            rintro e w2 ⟨rfl, e2⟩
            have e3 := e2.symm
            subst e3
            clear e2 HW2
            obtain ⟨t3, ht3⟩ : ∃ t, t = decide (0 ≤ r.dels ∧ r.dels ≤ x - 1) := ⟨_, rfl⟩
            have HW3 := Lib.hid (within_any (wr.alloc (.cells #[.int .i64 r.num, .int .i64 r.docs, .int .i64 r.level, .int .i64 r.dels] 88)) r.dels 0 (x - 1))
            rw [← ht3] at HW3
            cases t3 with
            | false =>
              have HE : Hid (T = false) := Lib.hid (HNO.out fun h => of_decide_eq_false ht3.symm h.2.2)
              clear ht3
              go_wp2_with fail
              refine HW3.out.mono ?_
              rintro e w2 ⟨rfl, e2⟩
              subst e2
              go_wp2
              go_ret
              exact ⟨by rw [HE.out]; rfl, HBN.out⟩
            | true =>
              have HT3 := Lib.hid (of_decide_eq_true ht3.symm)
              clear ht3
              go_wp2_with fail
              refine HW3.out.mono ?_
              rintro e w2 ⟨rfl, e2⟩
              have e3 := e2.symm
              subst e3
              clear e2 HW3
              have hwr : IntKind.i64.wrap (r.num + 1) = r.num + 1 := IntWalk.i64_in _ (by have := HT0.out; have := HF0.out; unfold fits64 at this; omega)
              have HP2 := Lib.hid (HPF.out.2 ⟨HP.out, ⟨HT0.out, HT1.out⟩, HT2.out, HT3.out⟩)
              go_wp2
              go_roundw
              case rel => exact ⟨i + 1, by omega, by rw [HLE.out], by go_num, HP2.out, HBN.out⟩
              case measure => simp [intOf]; omega
    · obtain rfl : i = n := by omega
      have hlz : ¬ ((i : Int) < (i : Int)) := by omega
      have HE : Hid (T = true) := Lib.hid (by rw [HT.out]; exact decide_eq_true HP.out)
      go_wp2
      go_ret
      exact ⟨by rw [HE.out]; rfl, HB.out⟩
theorem intInfoN : (Tryz.prog.info? 2).map (fun i => (i.zero, i.size, i.bytes)) = some (some (.int .i64 0), 1, 8) := by kernel_rfl
theorem one_int_srcN (w : World) (x : Int) : Src (w.alloc (.cells #[.int .i64 x] 2)) (some ⟨w.heap.size, 0, none⟩) 1 ([x].map (Value.int .i64)) :=
  ⟨rfl, fun ad e j u hu => by
    injection e with e
    subst e
    rw [Addr.add_mid, World.cell?_alloc_mark]
    simpa using hu, fun e => by cases e⟩
theorem int_oneN (l : List Int) : ∀ u ∈ l.map (Value.int .i64), u.oneCell' = true := fun u hu => by
  obtain ⟨x, -, rfl⟩ := List.mem_map.1 hu
  rfl
set_option maxHeartbeats 8000000 in
set_option maxRecDepth 100000 in
theorem numbers_any (w : World) (A : Option Addr) (n c : Nat) (L : List Rf) (h : RefsIn w A n L) (hn : n ≤ 1000) :
    Calls Tryz.prog 67 #[.slice A n c] w fun e w' => ∃ v, e = .returned v ∧ w'.ownsRow w.heap.size 2 1 v (pNums L).length ((pNums L).map (Value.int .i64)) ∧ Below w.heap.size w w' := by
  obtain ⟨i0, hi0, hz0, hz1, hz2⟩ := info_parts intInfoN
  have HI := Lib.hid h
  have HLN := Lib.hid h.len
  clear h
  go_enter Tryz.func67, Tryz.ntmps67
  go_wp2
  go_loopw [3, 8] (fun v iv wr => ∃ (i : Nat), i ≤ n ∧ iv = .int .i64 i ∧ wr.ownsRow w.heap.size 2 1 v (pNums (L.take i)).length ((pNums (L.take i)).map (Value.int .i64)) ∧ Below w.heap.size w wr) (fun _ iv _ => n - (intOf iv).toNat)
  case atStart => exact ⟨0, by omega, rfl, World.ownsRow_nil _ _ _ _, Below.refl _ _⟩
  case round =>
    obtain ⟨i, hi, rfl, hown, hb⟩ := hrel
    have HO := Lib.hid hown
    have HB := Lib.hid hb
    have hsz := hb.size
    obtain ⟨Ay, cy, hv⟩ := own_slice hown
    subst hv
    have hpl := pNums_len (L.take i)
    rw [List.length_take] at hpl
    clear hown hb
    rcases Nat.lt_or_ge i n with hlt | hge
    · have hlt' : (i : Int) < (n : Int) := by omega
      have pi : (0 : Int) ≤ (i : Int) := by omega
      obtain ⟨r, hr⟩ : ∃ r, L[i]? = some r := ⟨_, List.getElem?_eq_getElem (by rw [HLN.out]; exact hlt)⟩
      obtain ⟨pa, rfl, -, c0, c1, c2, c3, f0, f1, f2, f3⟩ := (HI.out.below HB.out).at_ i r hr
      have HNT : Hid (pNums (L.take (i + 1)) = pNums (L.take i) ++ pNum1 r) := Lib.hid (by rw [List.take_add_one, hr]; exact pNums_snoc _ _)
      obtain ⟨P, hP⟩ : ∃ P, P = pNums (L.take i) := ⟨_, rfl⟩
      rw [← hP] at HNT HO hpl ⊢
      have HBL : Hid (((wr.alloc (.cells #[.int .i64 r.num, .int .i64 r.docs, .int .i64 r.level, .int .i64 r.dels] 88)).alloc (.cells #[.int .i64 r.num] 2)).cell? ⟨wr.heap.size, 3, none⟩ = some (.int .i64 r.dels)) := Lib.hid (by
        have : Blk ((wr.alloc (.cells #[.int .i64 r.num, .int .i64 r.docs, .int .i64 r.level, .int .i64 r.dels] 88)).alloc (.cells #[.int .i64 r.num] 2)) wr.heap.size 88 #[.int .i64 r.num, .int .i64 r.docs, .int .i64 r.level, .int .i64 r.dels] := (Blk.new _ _ _).alloc _
        exact this.cell 3)
      have HB2 : Hid (Below w.heap.size w ((wr.alloc (.cells #[.int .i64 r.num, .int .i64 r.docs, .int .i64 r.level, .int .i64 r.dels] 88)).alloc (.cells #[.int .i64 r.num] 2))) := Lib.hid ((HB.out.alloc hsz _).alloc (by simp; omega) _)
      have HSR : Hid (Src ((wr.alloc (.cells #[.int .i64 r.num, .int .i64 r.docs, .int .i64 r.level, .int .i64 r.dels] 88)).alloc (.cells #[.int .i64 r.num] 2)) (some ⟨wr.heap.size + 1, 0, none⟩) 1 [.int .i64 r.num]) := Lib.hid (by simpa using one_int_srcN (wr.alloc (.cells #[.int .i64 r.num, .int .i64 r.docs, .int .i64 r.level, .int .i64 r.dels] 88)) r.num)
      clear hr hP
      by_cases hd : r.dels = 0
      · have d0 : (r.dels != 0) = false := by simp [hd]
        have HNT2 : Hid (pNums (L.take (i + 1)) = P ++ [r.num]) := Lib.hid (by rw [HNT.out]; unfold pNum1; rw [if_neg (by simp [hd])])
        clear hd
        go_wp2_with (at_builtin; (refine wpList_append_own _ rfl _ _ 89 rfl w.heap.size 2 i0 _ 1 8 Tryz.underlying89 hi0 hz0 hz1 hz2 rfl (by decide) _ P.length _ rfl (World.ownsRow.alloc (World.ownsRow.alloc HO.out _) _) ⟨wr.heap.size + 1, 0, none⟩ 1 1 [.int .i64 r.num] rfl rfl (fun j u hu => HSR.out.cells _ rfl j u hu) (by intro u hu; simp at hu; subst hu; rfl) (by unfold maxLen; omega) (by omega) (by simp; omega) ?_; intro v4 w4 hown4 hgrow4 hnil4; clear hnil4; have HC3 : Hid (w4.cell? ⟨wr.heap.size, 3, none⟩ = some (.int .i64 r.dels)) := Lib.hid (by rw [World.cell?_of_block (hgrow4.block wr.heap.size (by simp; omega) (fun e => by have := (HO.out.lt _ e.symm).2; omega))]; exact HBL.out); have c3z := HC3.out; have hs4 := hgrow4.size; simp only [World.size_alloc] at hs4))
        have HB4 : Hid (Below w.heap.size w w4) := Lib.hid (HB2.out.grown hgrow4 (by simp; omega) (fun g hg => (HO.out.lt g hg).1))
        have HO4 := Lib.hid hown4
        clear hown4 hgrow4
        go_roundw
        case rel => exact ⟨i + 1, by omega, by go_num, by rw [HNT2.out]; simpa using HO4.out, HB4.out⟩
        case measure => simp [intOf]; omega
      · have d0 : (r.dels != 0) = true := by simpa using hd
        have HNT2 : Hid (pNums (L.take (i + 1)) = P ++ [r.num, r.dels]) := Lib.hid (by rw [HNT.out]; unfold pNum1; rw [if_pos hd])
        clear hd
        go_wp2_with (at_builtin; first | (refine wpList_append_own _ rfl _ _ 89 rfl w.heap.size 2 i0 _ 1 8 Tryz.underlying89 hi0 hz0 hz1 hz2 rfl (by decide) _ P.length _ rfl (World.ownsRow.alloc (World.ownsRow.alloc HO.out _) _) ⟨wr.heap.size + 1, 0, none⟩ 1 1 [.int .i64 r.num] rfl rfl (fun j u hu => HSR.out.cells _ rfl j u hu) (by intro u hu; simp at hu; subst hu; rfl) (by unfold maxLen; omega) (by omega) (by simp; omega) ?_; intro v4 w4 hown4 hgrow4 hnil4; clear hnil4; have HC3 : Hid (w4.cell? ⟨wr.heap.size, 3, none⟩ = some (.int .i64 r.dels)) := Lib.hid (by rw [World.cell?_of_block (hgrow4.block wr.heap.size (by simp; omega) (fun e => by have := (HO.out.lt _ e.symm).2; omega))]; exact HBL.out); have c3z := HC3.out; have hs4 := hgrow4.size; simp only [World.size_alloc] at hs4) | (refine wpList_append_own _ rfl _ _ 89 rfl w.heap.size 2 i0 _ 1 8 Tryz.underlying89 hi0 hz0 hz1 hz2 rfl (by decide) _ (P.length + 1) _ rfl (World.ownsRow.alloc hown4 _) ⟨(w4).heap.size, 0, none⟩ 1 1 [.int .i64 r.dels] rfl rfl (by intro i u hu; rw [Addr.add_mid, cell_of_row _ _ _ _ _ _ (heap_alloc_new w4 _)]; simpa using hu) (by intro u hu; simp at hu; subst hu; rfl) (by unfold maxLen; omega) (by omega) (by simp; omega) ?_; intro v5 w5 hown5 hgrow5 hnil5; clear hnil5; skip))
        have HB4 : Hid (Below w.heap.size w w4) := Lib.hid (HB2.out.grown hgrow4 (by simp; omega) (fun g hg => (HO.out.lt g hg).1))
        have HB5 : Hid (Below w.heap.size w w5) := Lib.hid ((HB4.out.alloc (by omega) _).grown hgrow5 (by simp; omega) (fun g hg => (hown4.lt g hg).1))
        have HO5 := Lib.hid hown5
        clear hown4 hgrow4 hown5 hgrow5
        go_roundw
        case rel => exact ⟨i + 1, by omega, by go_num, by rw [HNT2.out]; simpa using HO5.out, HB5.out⟩
        case measure => simp [intOf]; omega
    · obtain rfl : i = n := by omega
      have hlz : ¬ ((i : Int) < (i : Int)) := by omega
      have e : L.take i = L := List.take_of_length_le (by rw [HLN.out]; omega)
      rw [e] at HO ⊢
      clear e
      go_wp2
      go_ret
      exact ⟨_, rfl, HO.out, HB.out⟩
end Go.Proofs.YtmhiekbpmoikfaaGreatDoor
namespace Go.Proofs.YtmhiekbpmoikfaaGreatDoor
open Go.RowKit Go.Maps Go.WideMaps
set_option linter.unusedSimpArgs false

theorem mErr_one {m : Mf} (h : ¬ mOk m) : mErr m = 1 := by unfold mErr; rw [if_neg h]
theorem mErr_zero {m : Mf} (h : mOk m) : mErr m = 0 := by unfold mErr; rw [if_pos h]
set_option maxHeartbeats 8000000 in
set_option maxRecDepth 100000 in
theorem pCheck_any (w : World) (m : Mf) (A : Option Addr) (n c : Nat) (h : RefsIn w A n m.refs) :
    Calls Tryz.prog 16 #[.agg #[.int .i64 m.gen, .int .i64 m.next, .slice A n c]] w fun e w' => e = .returned (.int .i64 (mErr m)) ∧ Below w.heap.size w w' := by
  obtain ⟨R, hR⟩ : ∃ R, R = mErr m := ⟨_, rfl⟩
  rw [← hR]
  have hiff := mOk_iff m
  have HNO : Hid (¬ mOk m → R = 1) := Lib.hid (fun h => by rw [hR, mErr_one h])
  have HYES : Hid (mOk m → R = 0) := Lib.hid (fun h => by rw [hR, mErr_zero h])
  have hln := h.len
  have HTOP : Hid (mOk m → 0 ≤ m.gen ∧ m.gen ≤ 1099511627776 ∧ 1 ≤ m.next ∧ m.next ≤ 1099511627776 ∧ n ≤ 24) := Lib.hid (fun hm => by
    have := hm.1
    unfold mTop maxNum at this
    omega)
  have HIFF : Hid (mOk m ↔ (0 ≤ m.gen ∧ m.gen ≤ 1099511627776 ∧ 1 ≤ m.next ∧ m.next ≤ 1099511627776 ∧ n ≤ 24) ∧ pAre m.next m.refs n ∧ (pNums m.refs).Nodup) := Lib.hid (by
    rw [hiff, hln]
    unfold mTop maxNum
    rw [hln])
  have HI := Lib.hid h
  obtain ⟨w1, hw1⟩ : ∃ w1, w1 = w.alloc (.cells #[.int .i64 m.gen, .int .i64 m.next, .slice A n c] 24) := ⟨_, rfl⟩
  obtain ⟨bm, hbm⟩ : ∃ b, b = w.heap.size := ⟨_, rfl⟩
  have hblk : Blk w1 bm 24 #[.int .i64 m.gen, .int .i64 m.next, .slice A n c] := by rw [hw1, hbm]; exact Blk.new _ _ _
  have HBLK := Lib.hid hblk
  have HB1 : Hid (Below w.heap.size w w1) := Lib.hid (by rw [hw1]; exact (Below.refl _ w).alloc (Nat.le_refl _) _)
  have HWW := Lib.hid hw1
  have HBM := Lib.hid hbm
  have hs1 : w.heap.size ≤ w1.heap.size := HB1.out.size
  have k0 := hblk.cell 0
  have k1 := hblk.cell 1
  have k2 := hblk.cell 2
  simp only [List.getElem?_toArray, List.getElem?_cons_zero, List.getElem?_cons_succ] at k0 k1 k2
  clear hR hiff hln h hw1 hbm hblk
  go_enter Tryz.func16, Tryz.ntmps16
  go_upto_region 1 with fail
  rw [← HWW.out, ← HBM.out]
  obtain ⟨t0, ht0⟩ : ∃ t, t = decide (0 ≤ m.gen ∧ m.gen ≤ 1099511627776) := ⟨_, rfl⟩
  have HW0 := Lib.hid (within_any w1 m.gen 0 1099511627776)
  rw [← ht0] at HW0
  cases t0 with
  | false =>
    have HE : Hid (R = 1) := Lib.hid (HNO.out fun hm => of_decide_eq_false ht0.symm ⟨(HTOP.out hm).1, (HTOP.out hm).2.1⟩)
    clear ht0
    go_wp2_with fail
    refine HW0.out.mono ?_
    rintro e w2 ⟨rfl, e2⟩
    subst e2
    go_wp2
    go_ret
    exact ⟨by rw [HE.out]; rfl, HB1.out⟩
  | true =>
    have HT0 := Lib.hid (of_decide_eq_true ht0.symm)
    clear ht0
    go_wp2_with fail
    refine HW0.out.mono ?_
    rintro e w2 ⟨rfl, e2⟩
    have e3 := e2.symm
    subst e3
    clear e2 HW0
    obtain ⟨t1, ht1⟩ : ∃ t, t = decide (1 ≤ m.next ∧ m.next ≤ 1099511627776) := ⟨_, rfl⟩
    have HW1 := Lib.hid (within_any w1 m.next 1 1099511627776)
    rw [← ht1] at HW1
    cases t1 with
    | false =>
      have HE : Hid (R = 1) := Lib.hid (HNO.out fun hm => of_decide_eq_false ht1.symm ⟨(HTOP.out hm).2.2.1, (HTOP.out hm).2.2.2.1⟩)
      clear ht1
      go_wp2_with fail
      refine HW1.out.mono ?_
      rintro e w2 ⟨rfl, e2⟩
      subst e2
      go_wp2
      go_ret
      exact ⟨by rw [HE.out]; rfl, HB1.out⟩
    | true =>
      have HT1 := Lib.hid (of_decide_eq_true ht1.symm)
      clear ht1
      go_wp2_with fail
      refine HW1.out.mono ?_
      rintro e w2 ⟨rfl, e2⟩
      have e3 := e2.symm
      subst e3
      clear e2 HW1
      by_cases hn : n ≤ 24
      case neg =>
        have hn' : (24 : Int) < (n : Int) := by omega
        have HE : Hid (R = 1) := Lib.hid (HNO.out fun hm => hn (HTOP.out hm).2.2.2.2)
        clear hn
        go_wp2
        go_ret
        exact ⟨by rw [HE.out]; rfl, HB1.out⟩
      have hn' : ¬ (24 : Int) < (n : Int) := by omega
      have HN := Lib.hid hn
      obtain ⟨t2, ht2⟩ : ∃ t, t = decide (pAre m.next m.refs n) := ⟨_, rfl⟩
      have HW2 := Lib.hid (areRefs_any w1 A n c m.refs (HI.out.below HB1.out) (by omega) m.next ⟨HT1.out.1, by have := HT1.out.2; omega⟩)
      rw [← ht2] at HW2
      cases t2 with
      | false =>
        have HE : Hid (R = 1) := Lib.hid (HNO.out fun hm => of_decide_eq_false ht2.symm (HIFF.out.1 hm).2.1)
        clear ht2
        go_wp2_with fail
        refine HW2.out.mono ?_
        rintro e w2 ⟨rfl, hb2⟩
        have HB2 := Lib.hid (below_then HB1.out hb2 HB1.out.size)
        clear hb2
        go_wp2
        go_ret
        exact ⟨by rw [HE.out]; rfl, HB2.out⟩
      | true =>
        have HT2 := Lib.hid (of_decide_eq_true ht2.symm)
        clear ht2
        go_wp2_with fail
        refine HW2.out.mono ?_
        rintro e w2 ⟨rfl, hb2⟩
        have HB2 := Lib.hid (below_then HB1.out hb2 HB1.out.size)
        have j2 := (HBLK.out.below hb2 HBLK.out.lt).cell 2
        simp only [List.getElem?_toArray, List.getElem?_cons_zero, List.getElem?_cons_succ] at j2
        have hs2 := hb2.size
        have HNU := Lib.hid (numbers_any w2 A n c m.refs (HI.out.below HB2.out) (by omega))
        clear hb2 HW2
        go_wp2_with fail
        refine HNU.out.mono ?_
        rintro e w3 ⟨v3, rfl, hown, hb3⟩
        have hpl := pNums_len m.refs
        rw [HI.out.len] at hpl
        have HTW := Lib.hid (twice_any w3 w2.heap.size v3 (pNums m.refs) hown (by omega))
        have HB3 := Lib.hid (below_then HB2.out hb3 HB2.out.size)
        have hs3 := hb3.size
        clear hown hb3 HNU
        obtain ⟨t4, ht4⟩ : ∃ t, t = decide (¬ (pNums m.refs).Nodup) := ⟨_, rfl⟩
        rw [← ht4] at HTW
        cases t4 with
        | true =>
          have HE : Hid (R = 1) := Lib.hid (HNO.out fun hm => of_decide_eq_true ht4.symm (HIFF.out.1 hm).2.2)
          clear ht4
          go_wp2_with fail
          refine HTW.out.mono ?_
          rintro e w4 ⟨rfl, hb4⟩
          have HB4 : Hid (Below w.heap.size w w4) := Lib.hid (HB3.out.trans (hb4.mono (by have := HB2.out.size; omega)))
          clear hb4
          go_wp2
          go_ret
          exact ⟨by rw [HE.out]; rfl, HB4.out⟩
        | false =>
          have HE : Hid (R = 0) := Lib.hid (HYES.out (HIFF.out.2 ⟨⟨HT0.out.1, HT0.out.2, HT1.out.1, HT1.out.2, HN.out⟩, HT2.out, Classical.not_not.1 (of_decide_eq_false ht4.symm)⟩))
          clear ht4
          go_wp2_with fail
          refine HTW.out.mono ?_
          rintro e w4 ⟨rfl, hb4⟩
          have HB4 : Hid (Below w.heap.size w w4) := Lib.hid (HB3.out.trans (hb4.mono (by have := HB2.out.size; omega)))
          clear hb4
          go_wp2
          go_ret
          exact ⟨by rw [HE.out]; rfl, HB4.out⟩
end Go.Proofs.YtmhiekbpmoikfaaGreatDoor
namespace Go.Proofs.YtmhiekbpmoikfaaGreatDoor
open Go.RowKit Go.Maps Go.WideMaps

def MPutOut (w : World) (m : Mf) (e : Ending) (w' : World) : Prop := Below w.heap.size w w' ∧ (mOk m → ∃ A c, e = .returned (.tuple #[.slice A (mPutB m).length c, .int .i64 0]) ∧ w'.ownsRow w.heap.size 5 1 (.slice A (mPutB m).length c) (mPutB m).length ((mPutB m).map byteV)) ∧ (¬ mOk m → e = .returned (.tuple #[.slice none 0 0, .int .i64 1]))
/-- What Get gives: the manifest's references lie in a row of its own. -/
def MGetOut (w : World) (x : Nm) (e : Ending) (w' : World) : Prop := Below w.heap.size w w' ∧ match mGetB x with
  | none => e = .returned (.tuple #[.agg #[.int .i64 0, .int .i64 0, .slice none 0 0], .int .i64 3])
  | some m => ∃ v, e = .returned (.tuple #[.agg #[.int .i64 m.gen, .int .i64 m.next, v], .int .i64 0]) ∧ w'.ownsRow w.heap.size 88 4 v m.refs.length (m.refs.flatMap rfCells)
theorem MGetOut.none_ {w w' : World} {x : Nm} (h : mGetB x = none) (hb : Below w.heap.size w w') : MGetOut w x (.returned (.tuple #[.agg #[.int .i64 0, .int .i64 0, .slice none 0 0], .int .i64 3])) w' := by
  refine ⟨hb, ?_⟩
  rw [h]

def MLoadOut (w : World) (l : Option Mf × Int) (e : Ending) (w' : World) : Prop := Below w.heap.size w w' ∧ match l with
  | (none, er) => e = .returned (.tuple #[.agg #[.int .i64 0, .int .i64 0, .slice none 0 0], .int .i64 er])
  | (some m, er) => ∃ v, e = .returned (.tuple #[.agg #[.int .i64 m.gen, .int .i64 m.next, v], .int .i64 er]) ∧ w'.ownsRow w.heap.size 88 4 v m.refs.length (m.refs.flatMap rfCells)
end Go.Proofs.YtmhiekbpmoikfaaGreatDoor
namespace Go.Proofs.YtmhiekbpmoikfaaGreatDoor
open Go.RowKit Go.Maps Go.WideMaps
set_option linter.unusedSimpArgs false

def refN (r : Rf) : List Nat := [r.num.toNat, r.docs.toNat, r.level.toNat, r.dels.toNat]
theorem refN_bytes (r : Rf) : (refN r).flatMap putL = refB r := by
  unfold refN refB
  simp
set_option maxHeartbeats 16000000 in
set_option maxRecDepth 100000 in
theorem pPut_any (w : World) (m : Mf) (A : Option Addr) (n c : Nat) (h : RefsIn w A n m.refs) :
    Calls Tryz.prog 12 #[.agg #[.int .i64 m.gen, .int .i64 m.next, .slice A n c]] w (MPutOut w m) := by
  have HI := Lib.hid h
  have HLN := Lib.hid h.len
  obtain ⟨w1, hw1⟩ : ∃ w1, w1 = w.alloc (.cells #[.int .i64 m.gen, .int .i64 m.next, .slice A n c] 24) := ⟨_, rfl⟩
  obtain ⟨bm, hbm⟩ : ∃ b, b = w.heap.size := ⟨_, rfl⟩
  have HK1 : Hid (Blk w1 bm 24 #[.int .i64 m.gen, .int .i64 m.next, .slice A n c]) := Lib.hid (by rw [hw1, hbm]; exact Blk.new _ _ _)
  have HB1 : Hid (Below w.heap.size w w1) := Lib.hid (by rw [hw1]; exact (Below.refl _ w).alloc (Nat.le_refl _) _)
  have HCK := Lib.hid (pCheck_any w1 m A n c (h.below HB1.out))
  have HWW := Lib.hid hw1
  have HBM := Lib.hid hbm
  have HC1 : Hid (∀ u : World, Below w1.heap.size w1 u → u.cell? ⟨bm, 0, none⟩ = some (.int .i64 m.gen) ∧ u.cell? ⟨bm, 1, none⟩ = some (.int .i64 m.next) ∧ u.cell? ⟨bm, 2, none⟩ = some (.slice A n c)) := Lib.hid (fun u hu => by
    have h1 := HK1.out.below hu HK1.out.lt
    exact ⟨h1.cell 0, h1.cell 1, h1.cell 2⟩)
  obtain ⟨k0, k1, k2⟩ := HC1.out w1 (Below.refl _ _)
  clear hw1 hbm h
  go_enter Tryz.func12, Tryz.ntmps12
  go_upto_region 1 with fail
  rw [← HWW.out, ← HBM.out]
  go_wp2_with fail
  refine HCK.out.mono ?_
  rintro e w2 ⟨rfl, hb2⟩
  have HB2 := Lib.hid hb2
  have HBW2 := Lib.hid (below_then HB1.out hb2 HB1.out.size)
  clear hb2 HCK k0 k1 k2
  by_cases hm : mOk m
  case neg =>
    have HE : Hid (mErr m = 1) := Lib.hid (by unfold mErr; rw [if_neg hm])
    rw [HE.out]
    have HM := Lib.hid hm
    clear hm
    go_wp2
    go_ret2
    exact ⟨HBW2.out, fun e => absurd e HM.out, fun _ => rfl⟩
  have HE : Hid (mErr m = 0) := Lib.hid (by unfold mErr; rw [if_pos hm])
  rw [HE.out]
  have htop := hm.1
  unfold mTop maxNum at htop
  rw [HLN.out] at htop
  have HFIT := Lib.hid (mOk_fit hm)
  have HM := Lib.hid hm
  obtain ⟨g, hgg⟩ : ∃ g : Nat, (g : Int) = m.gen := ⟨m.gen.toNat, by omega⟩
  obtain ⟨x, hxx⟩ : ∃ x : Nat, (x : Int) = m.next := ⟨m.next.toNat, by omega⟩
  have HGG : Hid (m.gen.toNat = g ∧ m.next.toNat = x) := Lib.hid ⟨by omega, by omega⟩
  rw [← hgg, ← hxx] at htop HC1
  clear hgg hxx hm HE
  obtain ⟨vb, hvb⟩ : ∃ b, b = w2.heap.size := ⟨_, rfl⟩
  obtain ⟨w3, hw3⟩ : ∃ w3, w3 = (w2.alloc (.cells #[.slice none 0 0] 25)).alloc (.cells #[.int .i64 g, .int .i64 x, .int .i64 n] 2) := ⟨_, rfl⟩
  have HB3 : Hid (Below w2.heap.size w2 w3) := Lib.hid (by rw [hw3]; exact ((Below.refl _ w2).alloc (Nat.le_refl _) _).alloc (by simp) _)
  have HV3 : Hid (Blk w3 vb 25 #[.slice none 0 0]) := Lib.hid (by rw [hw3, hvb]; exact (Blk.new _ _ _).alloc _)
  have HS3 : Hid (Blk w3 (vb + 1) 2 (intCells [g, x, n])) := Lib.hid (by
    have := Blk.new (w2.alloc (.cells #[.slice none 0 0] 25)) 2 (intCells [g, x, n])
    rw [World.size_alloc] at this
    rw [hw3, hvb]
    exact this)
  have hs3 : w3.heap.size = vb + 2 := by rw [hw3, hvb]; simp
  have HP3 : Hid (PutB w3 vb (vb + 1) [] w3) := Lib.hid ⟨Kept.refl _ _, .slice none 0 0, HV3.out, World.ownsRow_nil _ _ _ _⟩
  have HADD := Lib.hid (mqAdd_any w3 vb (vb + 1) [] HP3.out (by omega) (by omega) (vb + 1) 3 3 [g, x, n] rfl HS3.out (by omega) (by
    intro y hy
    simp only [List.mem_cons, List.not_mem_nil, or_false] at hy
    rcases hy with rfl | rfl | rfl <;> omega) (by simp))
  obtain ⟨j0, j1, j2⟩ := HC1.out (w2.alloc (.cells #[.slice none 0 0] 25)) (HB2.out.alloc HB2.out.size _)
  have HW3 := Lib.hid hw3
  have HVB := Lib.hid hvb
  have hwb : w.heap.size + 1 ≤ vb := by
    have h1 := HB2.out.size
    rw [HWW.out] at h1
    simp at h1
    rw [HVB.out]
    omega
  clear hw3 hvb
  go_wp2_with fail
  rw [← HW3.out, ← HVB.out]
  clear j0 j1 j2
  refine HADD.out.mono ?_
  rintro e w4 ⟨rfl, hp4⟩
  have hs4 := hp4.kept.size
  have HC4 : Hid (∀ u : World, Kept (fun i => i = vb ∨ vb + 1 ≤ i) w3 u → u.cell? ⟨bm, 2, none⟩ = some (.slice A n c) ∧ RefsIn u A n m.refs) := Lib.hid (fun u hu => by
    have h1 : Below vb w2 w3 := HB3.out.mono (by rw [HVB.out]; exact Nat.le_refl _)
    have h2 : Below vb w2 u := h1.trans (hu.toBelow (by omega) (fun i hi => by omega))
    have h3 : Below w2.heap.size w2 u := h2.mono (by rw [HVB.out]; exact Nat.le_refl _)
    exact ⟨(HC1.out u (below_then HB2.out h3 HB2.out.size)).2.2, HI.out.below (below_then HBW2.out h3 HBW2.out.size)⟩)
  obtain ⟨Y0, hY0⟩ : ∃ Y, Y = putL g ++ putL x ++ putL n := ⟨_, rfl⟩
  have HP4 : Hid (PutB w3 vb (vb + 1) Y0 w4) := Lib.hid (by
    rw [hY0]
    have : ([] : Nm) ++ [g, x, n].flatMap putL = putL g ++ putL x ++ putL n := by simp
    rw [← this]
    exact hp4)
  have HY0 := Lib.hid hY0
  have hy0 : Y0.length ≤ 30 := by
    rw [hY0]
    simp only [List.length_append]
    have h1 := putL_len g (by omega)
    have h2 := putL_len x (by omega)
    have h3 := putL_len n (by omega)
    omega
  obtain ⟨j2, -⟩ := HC4.out w4 hp4.kept
  clear hp4 hY0 HADD
  go_wp2_with fail
  go_loopw [28] (fun iv wr => ∃ (i : Nat), i ≤ n ∧ iv = .int .i64 i ∧ PutB w3 vb (vb + 1) (Y0 ++ refsB m.refs i) wr) (fun iv _ => n - (intOf iv).toNat)
  case atStart => exact ⟨0, by omega, rfl, by unfold refsB; rw [List.append_nil]; exact HP4.out⟩
  case round =>
    obtain ⟨i, hi, rfl, hpb⟩ := hrel
    have HPB := Lib.hid hpb
    have hsz := hpb.kept.size
    obtain ⟨Y, hY⟩ : ∃ Y, Y = Y0 ++ refsB m.refs i := ⟨_, rfl⟩
    rw [← hY] at HPB
    have hyl : Y.length ≤ 1000 := by
      rw [hY, List.length_append]
      have := refsB_len HFIT.out i (by rw [HLN.out]; exact hi)
      omega
    have HY := Lib.hid hY
    obtain ⟨i2, hrf⟩ := HC4.out wr hpb.kept
    have HRF := Lib.hid hrf
    clear hpb hY hrf
    rcases Nat.lt_or_ge i n with hlt | hge
    · have hlt' : (i : Int) < (n : Int) := by omega
      have pi : (0 : Int) ≤ (i : Int) := by omega
      obtain ⟨r, hr⟩ : ∃ r, m.refs[i]? = some r := ⟨_, List.getElem?_eq_getElem (by rw [HLN.out]; exact hlt)⟩
      obtain ⟨pa, rfl, -, c0, c1, c2, c3, f0, f1, f2, f3⟩ := HRF.out.at_ i r hr
      have hfit := HFIT.out r (List.mem_of_getElem? hr)
      unfold rfFit maxNum at hfit
      obtain ⟨⟨a1, a2⟩, ⟨b1, b2⟩, ⟨v1, v2⟩, d1, d2⟩ := hfit
      have HRB : Hid (Y0 ++ refsB m.refs (i + 1) = Y ++ (refN r).flatMap putL) := Lib.hid (by rw [HY.out, refsB, List.getD_eq_getElem?_getD, hr, Option.getD_some, refN_bytes, List.append_assoc])
      obtain ⟨na, hna⟩ : ∃ z : Nat, (z : Int) = r.num := ⟨r.num.toNat, by omega⟩
      obtain ⟨nb, hnb⟩ : ∃ z : Nat, (z : Int) = r.docs := ⟨r.docs.toNat, by omega⟩
      obtain ⟨nv, hnv⟩ : ∃ z : Nat, (z : Int) = r.level := ⟨r.level.toNat, by omega⟩
      obtain ⟨nd, hnd⟩ : ∃ z : Nat, (z : Int) = r.dels := ⟨r.dels.toNat, by omega⟩
      have hrn : refN r = [na, nb, nv, nd] := by
        unfold refN
        rw [← hna, ← hnb, ← hnv, ← hnd]
        simp
      rw [← hna] at c0 a1 a2
      rw [← hnb] at c1 b1 b2
      rw [← hnv] at c2 v1 v2
      rw [← hnd] at c3 d1 d2
      rw [hrn] at HRB
      obtain ⟨w5, hw5⟩ : ∃ z, z = (wr.alloc (.cells #[.int .i64 na, .int .i64 nb, .int .i64 nv, .int .i64 nd] 88)).alloc (.cells #[.int .i64 na, .int .i64 nb, .int .i64 nv, .int .i64 nd] 2) := ⟨_, rfl⟩
      have hs5 : w5.heap.size = wr.heap.size + 2 := by rw [hw5]; simp
      have HB5 : Hid (Below wr.heap.size wr w5) := Lib.hid (by rw [hw5]; exact ((Below.refl _ wr).alloc (Nat.le_refl _) _).alloc (by simp) _)
      have HS5 : Hid (Blk w5 (wr.heap.size + 1) 2 (intCells [na, nb, nv, nd])) := Lib.hid (by
        have := Blk.new (wr.alloc (.cells #[.int .i64 na, .int .i64 nb, .int .i64 nv, .int .i64 nd] 88)) 2 (intCells [na, nb, nv, nd])
        rw [World.size_alloc] at this
        rw [hw5]
        exact this)
      have HP5 : Hid (PutB w5 vb (vb + 1) Y w5) := Lib.hid (by
        obtain ⟨-, v, q1, q2⟩ := HPB.out
        exact ⟨Kept.refl _ _, v, q1.below HB5.out q1.lt, ownsRow_block q2 fun g hg => HB5.out.block g (q2.lt g hg).2⟩)
      have HADD := Lib.hid (mqAdd_any w5 vb (vb + 1) Y HP5.out (by omega) (by omega) (wr.heap.size + 1) 4 4 [na, nb, nv, nd] rfl HS5.out (by omega) (by
        intro y hy
        simp only [List.mem_cons, List.not_mem_nil, or_false] at hy
        rcases hy with rfl | rfl | rfl | rfl <;> omega) (by omega))
      have HW5 := Lib.hid hw5
      clear hr hna hnb hnv hnd hrn hw5
      go_wp2_with fail
      rw [← HW5.out]
      refine HADD.out.mono ?_
      rintro e w6 ⟨rfl, hp6⟩
      have HP6 : Hid (PutB w3 vb (vb + 1) (Y0 ++ refsB m.refs (i + 1)) w6) := Lib.hid (by
        rw [HRB.out]
        exact ⟨(HPB.out.kept.trans (Kept.below (F := fun _ => False) HB5.out) (fun i _ h => h.elim)).trans hp6.kept (fun i _ h => h), hp6.row⟩)
      clear hp6 HADD
      go_wp2
      go_roundw
      case rel => exact ⟨i + 1, by omega, by go_num, HP6.out⟩
      case measure => simp [intOf]; omega
    · have hlz : ¬ ((i : Int) < (n : Int)) := by omega
      have HKN : Hid (i = n) := Lib.hid (by omega)
      obtain ⟨hkk, v, hV, hO⟩ := HPB.out
      obtain ⟨Ay, cy, hv⟩ := own_slice hO
      subst hv
      have HMB : Hid (mBody m = Y) := Lib.hid (by
        rw [HY.out, HY0.out]
        unfold mBody
        rw [HLN.out, HGG.out.1, HGG.out.2, HKN.out])
      have hbi := BytesIn.own hO (by unfold maxLen; omega)
      have HCF := Lib.hid (fPut_any wr Ay Y.length cy Y hbi (by omega))
      rw [← HMB.out] at HCF
      have HPB2 : Hid (putF (mBody m) = mPutB m) := Lib.hid rfl
      rw [HPB2.out] at HCF
      rw [HMB.out] at HCF
      have y0 := hV.cell 0
      simp only [List.getElem?_toArray, List.getElem?_cons_zero, List.getElem?_cons_succ] at y0
      have HBF : Hid (Below w.heap.size w wr) := Lib.hid (by
        have h1 : Below w.heap.size w w3 := below_then HBW2.out HB3.out HBW2.out.size
        exact h1.trans (hkk.toBelow (by omega) (fun i hi => by omega)))
      clear hbi hkk hV hO
      go_wp2_with fail
      refine HCF.out.mono ?_
      rintro e w7 ⟨v4, rfl, ho4, hb4⟩
      obtain ⟨A4, c4, hv4⟩ := own_slice ho4
      subst hv4
      have HB7 := Lib.hid (below_then HBF.out hb4 HBF.out.size)
      have HO7 := Lib.hid (Go.Joins.ownsRow_le ho4 HBF.out.size)
      clear ho4 hb4
      go_wp2
      go_ret2
      exact ⟨HB7.out, fun _ => ⟨A4, c4, rfl, HO7.out⟩, fun e => absurd HM.out e⟩
end Go.Proofs.YtmhiekbpmoikfaaGreatDoor
namespace Go.Proofs.YtmhiekbpmoikfaaGreatDoor

/-- One number is asked for: what is answered, whether all went well, and what is left. -/
def pN (ok : Bool) (l : List UInt8) (most : Nat) : Nat × Bool × List UInt8 :=
  if (getL l).2.2 = 0 ∧ (getL l).1 ≤ most then ((getL l).1, ok, l.drop (getL l).2.1) else (0, false, l)
theorem pN_at {t : List UInt8} {v most : Nat} (hv : v ≤ most) (h64 : v < 2 ^ 64) : pN true (putL v ++ t) most = (v, true, t) := by
  unfold pN
  rw [getL_put h64]
  simp only
  rw [if_pos ⟨trivial, hv⟩, List.drop_left]
theorem pN_back {ok : Bool} {l : List UInt8} {most : Nat} (h : (pN ok l most).2.1 = true) : ok = true ∧ l = putL (pN ok l most).1 ++ (pN ok l most).2.2 ∧ (pN ok l most).1 ≤ most := by
  unfold pN at h ⊢
  split at h
  · rename_i h0
    rw [if_pos h0]
    obtain ⟨v, k, e, hg⟩ : ∃ v k e, getL l = (v, k, e) := ⟨_, _, _, rfl⟩
    rw [hg] at h0 h ⊢
    simp only at h0 h ⊢
    obtain ⟨rfl, h1⟩ := h0
    obtain ⟨-, -, -, g4, -⟩ := getL_inv hg
    exact ⟨h, by rw [← g4, List.take_append_drop], h1⟩
  · cases h
theorem pN_most (ok : Bool) (l : List UInt8) (most : Nat) : (pN ok l most).1 ≤ most ∧ (pN ok l most).2.2.length ≤ l.length := by
  unfold pN
  split
  · rename_i h; exact ⟨h.2, by simp⟩
  · exact ⟨Nat.zero_le _, Nat.le_refl _⟩
abbrev bigN : Nat := 1099511627776
/-- One reference. -/
def pRef (s : Bool × List UInt8) : Rf × Bool × List UInt8 :=
  let a := pN s.1 s.2 bigN
  let b := pN a.2.1 a.2.2 64
  let c := pN b.2.1 b.2.2 16
  let d := pN c.2.1 c.2.2 bigN
  (⟨(a.1 : Int), (b.1 : Int), (c.1 : Int), (d.1 : Int)⟩, d.2)
def pUp (s : Bool × List UInt8) : Nat → List Rf × Bool × List UInt8
  | 0 => ([], s)
  | k + 1 => ((pUp s k).1 ++ [(pRef (pUp s k).2).1], (pRef (pUp s k).2).2)
def pA (x : List UInt8) := pN true x bigN
def pB (x : List UInt8) := pN (pA x).2.1 (pA x).2.2 bigN
def pC (x : List UInt8) := pN (pB x).2.1 (pB x).2.2 24
def pEnd (x : List UInt8) := pUp (pC x).2 (pC x).1
def pRead (x : List UInt8) : Mf := ⟨((pA x).1 : Int), ((pB x).1 : Int), (pEnd x).1⟩
def pIs (x : List UInt8) : Bool := (pEnd x).2.1 && decide ((pEnd x).2.2.length = 0)
def pOf (x : List UInt8) : Option Mf := if pIs x = true ∧ mOk (pRead x) then some (pRead x) else none
def pSmall (r : Rf) : Prop := r.docs ≤ 64 ∧ r.level ≤ 16
theorem pRef_at {r : Rf} {t : List UInt8} (hr : rfFit r) (hs : pSmall r) : pRef (true, refB r ++ t) = (r, true, t) := by
  obtain ⟨f1, f2, f3, f4⟩ := hr
  obtain ⟨s1, s2⟩ := hs
  obtain ⟨a1, a2, a3⟩ := maxNum_lt f1
  obtain ⟨b1, b2, b3⟩ := maxNum_lt f2
  obtain ⟨c1, c2, c3⟩ := maxNum_lt f3
  obtain ⟨d1, d2, d3⟩ := maxNum_lt f4
  unfold maxNum at a2 d2
  unfold pRef refB
  simp only
  rw [List.append_assoc, List.append_assoc, List.append_assoc, pN_at (by unfold bigN; omega) a3]
  simp only
  rw [pN_at (by omega) b3]
  simp only
  rw [pN_at (by omega) c3]
  simp only
  rw [pN_at (by unfold bigN; omega) d3]
  simp only
  rw [a1, b1, c1, d1]
theorem pRef_back {s : Bool × List UInt8} (h : (pRef s).2.1 = true) : s.1 = true ∧ s.2 = refB (pRef s).1 ++ (pRef s).2.2 := by
  unfold pRef at h ⊢
  simp only at h ⊢
  obtain ⟨hc, ec, -⟩ := pN_back h
  obtain ⟨hb, eb, -⟩ := pN_back hc
  obtain ⟨ha, ea, -⟩ := pN_back hb
  obtain ⟨h0, e0, -⟩ := pN_back ha
  refine ⟨h0, ?_⟩
  unfold refB
  simp only [Int.toNat_natCast, List.append_assoc]
  rw [← ec, ← eb, ← ea]
  exact e0
theorem pUp_len (s : Bool × List UInt8) : ∀ k, (pUp s k).1.length = k
  | 0 => rfl
  | k + 1 => by rw [pUp]; simp [pUp_len s k]
theorem pUp_at {l : List Rf} (hl : ∀ r ∈ l, rfFit r ∧ pSmall r) : ∀ (k : Nat) (t : List UInt8), k ≤ l.length → pUp (true, refsB l k ++ t) k = (l.take k, true, t)
  | 0, t, _ => by simp [pUp, refsB]
  | k + 1, t, hk => by
    have hg : l.getD k refZ = l[k]'(by omega) := by rw [List.getD_eq_getElem?_getD, List.getElem?_eq_getElem (by omega)]; rfl
    rw [refsB, List.append_assoc, pUp, pUp_at hl k _ (by omega)]
    simp only
    obtain ⟨h1, h2⟩ := hl _ (List.getElem_mem (show k < l.length by omega))
    rw [hg, pRef_at h1 h2, List.take_add_one, List.getElem?_eq_getElem (by omega)]
    rfl
theorem pUp_back {s : Bool × List UInt8} : ∀ (k : Nat), (pUp s k).2.1 = true → s.1 = true ∧ s.2 = refsB (pUp s k).1 k ++ (pUp s k).2.2
  | 0, h => ⟨h, rfl⟩
  | k + 1, h => by
    obtain ⟨h1, e1⟩ := pRef_back (s := (pUp s k).2) h
    obtain ⟨h2, e2⟩ := pUp_back k h1
    refine ⟨h2, ?_⟩
    rw [pUp]
    simp only
    rw [refsB, refsB_left _ _ k (by rw [pUp_len]; omega), List.getD_eq_getElem?_getD, List.getElem?_append_right (by rw [pUp_len]; omega), pUp_len, Nat.sub_self, List.append_assoc]
    show s.2 = refsB (pUp s k).1 k ++ (refB (pRef (pUp s k).2).1 ++ (pRef (pUp s k).2).2.2)
    rw [← e1]
    exact e2
theorem mOk_small {m : Mf} (h : mOk m) : ∀ r ∈ m.refs, pSmall r := by
  intro r hr
  obtain ⟨i, hi, e⟩ := List.getElem_of_mem hr
  have h7 := h.2 i hi
  unfold refOk at h7
  have hg : m.refs.getD i refZ = r := by rw [List.getD_eq_getElem?_getD, List.getElem?_eq_getElem hi, e]; rfl
  rw [hg] at h7
  exact ⟨by omega, by omega⟩
theorem pOf_put {m : Mf} (h : mOk m) : pOf (mBody m) = some m := by
  obtain ⟨t1, t2, t3, t4, t5⟩ := h.1
  obtain ⟨a1, a2, a3⟩ := maxNum_lt ⟨t1, t2⟩
  obtain ⟨b1, b2, b3⟩ := maxNum_lt (x := m.next) ⟨by omega, t4⟩
  unfold maxNum at a2 b2
  have hA : pA (mBody m) = (m.gen.toNat, true, putL m.next.toNat ++ (putL m.refs.length ++ refsB m.refs m.refs.length)) := by
    unfold pA mBody
    rw [List.append_assoc, List.append_assoc]
    exact pN_at (by unfold bigN; omega) a3
  have hB : pB (mBody m) = (m.next.toNat, true, putL m.refs.length ++ refsB m.refs m.refs.length) := by
    unfold pB
    rw [hA]
    exact pN_at (by unfold bigN; omega) b3
  have hC : pC (mBody m) = (m.refs.length, true, refsB m.refs m.refs.length) := by
    unfold pC
    rw [hB]
    exact pN_at t5 (by omega)
  have hE : pEnd (mBody m) = (m.refs, true, []) := by
    unfold pEnd
    rw [hC]
    have := pUp_at (fun r hr => ⟨mOk_fit h r hr, mOk_small h r hr⟩) m.refs.length [] (Nat.le_refl _)
    rw [List.append_nil, List.take_length] at this
    exact this
  have hR : pRead (mBody m) = m := by
    unfold pRead
    rw [hA, hB, hE]
    simp only
    rw [a1, b1]
  unfold pOf pIs
  rw [hE, hR, if_pos ⟨rfl, h⟩]
theorem pOf_back {x : List UInt8} {m : Mf} (h : pOf x = some m) : mOk m ∧ mBody m = x := by
  unfold pOf at h
  split at h
  · rename_i h0
    cases h
    obtain ⟨h1, h2⟩ := h0
    refine ⟨h2, ?_⟩
    unfold pIs at h1
    simp only [Bool.and_eq_true, decide_eq_true_eq] at h1
    obtain ⟨h3, h4⟩ := h1
    have h4 := List.eq_nil_of_length_eq_zero h4
    obtain ⟨h5, e5⟩ := pUp_back _ h3
    obtain ⟨h6, e6, -⟩ := pN_back (ok := (pB x).2.1) (l := (pB x).2.2) (most := 24) h5
    obtain ⟨h7, e7, -⟩ := pN_back (ok := (pA x).2.1) (l := (pA x).2.2) (most := bigN) h6
    obtain ⟨h8, e8, -⟩ := pN_back (ok := true) (l := x) (most := bigN) h7
    have hl : (pRead x).refs.length = (pC x).1 := by show (pUp _ _).1.length = _; rw [pUp_len]
    unfold mBody
    rw [hl]
    show putL ((pA x).1 : Int).toNat ++ putL ((pB x).1 : Int).toNat ++ putL (pC x).1 ++ refsB (pEnd x).1 (pC x).1 = x
    rw [Int.toNat_natCast, Int.toNat_natCast, List.append_assoc, List.append_assoc]
    have e5' : (pC x).2.2 = refsB (pEnd x).1 (pC x).1 := by
      have : (pC x).2.2 = refsB (pEnd x).1 (pC x).1 ++ (pEnd x).2.2 := e5
      rw [h4, List.append_nil] at this
      exact this
    have e6' : (pB x).2.2 = putL (pC x).1 ++ (pC x).2.2 := e6
    have e7' : (pA x).2.2 = putL (pB x).1 ++ (pB x).2.2 := e7
    have e8' : x = putL (pA x).1 ++ (pA x).2.2 := e8
    rw [← e5', ← e6', ← e7', ← e8']
  · cases h
/-- What Get makes of bytes: what a frame's content is, if the frame is all. -/
def pGetB (b : List UInt8) : Option Mf := if (getF b).2.2 = 0 ∧ b.length ≤ (getF b).2.1 then pOf (getF b).1 else none
theorem pGet_put {m : Mf} (h : mOk m) : pGetB (mPutB m) = some m := by
  have hf := getF_put (mBody m) (by have := mBody_len h; omega) []
  rw [List.append_nil] at hf
  unfold pGetB mPutB
  rw [hf]
  simp only
  rw [if_pos ⟨trivial, Nat.le_refl _⟩]
  exact pOf_put h
theorem pGet_back {b : List UInt8} {m : Mf} (h : pGetB b = some m) : mOk m ∧ mPutB m = b := by
  unfold pGetB at h
  split at h
  · rename_i h0
    obtain ⟨x, k, e, hg⟩ : ∃ x k e, getF b = (x, k, e) := ⟨_, _, _, rfl⟩
    rw [hg] at h h0
    simp only at h h0
    obtain ⟨rfl, h1⟩ := h0
    obtain ⟨-, g2, g3, -⟩ := getF_inv hg
    obtain ⟨h2, h3⟩ := pOf_back h
    refine ⟨h2, ?_⟩
    unfold mPutB
    rw [h3, ← g3, List.take_of_length_le h1]
  · cases h
/-- Both readers answer alike. -/
theorem pGet_is (b : List UInt8) : pGetB b = mGetB b := by
  cases h : pGetB b with
  | some m =>
    obtain ⟨h1, rfl⟩ := pGet_back h
    exact (mGet_put h1).symm
  | none =>
    cases h' : mGetB b with
    | none => rfl
    | some m =>
      obtain ⟨h1, rfl⟩ := mGet_back h'
      rw [pGet_put h1] at h
      cases h
end Go.Proofs.YtmhiekbpmoikfaaGreatDoor
namespace Go.Proofs.YtmhiekbpmoikfaaGreatDoor
open Go.RowKit Go.Maps Go.WideMaps
set_option linter.unusedSimpArgs false

set_option maxRecDepth 100000 in
theorem ref_fields : ∃ f g h k : Field, Tryz.prog.fieldsOf 88 = #[f, g, h, k] ∧ (f.name ≠ "_" ∧ g.name ≠ "_" ∧ h.name ≠ "_" ∧ k.name ≠ "_") ∧ (f.type = 2 ∧ g.type = 3 ∧ h.type = 3 ∧ k.type = 2) ∧ f.offset = 0 ∧ g.offset = 1 ∧ h.offset = 2 ∧ k.offset = 3 :=
  ⟨_, _, _, _, rfl, ⟨by decide, by decide, by decide, by decide⟩, ⟨rfl, rfl, rfl, rfl⟩, rfl, rfl, rfl, rfl⟩
set_option maxRecDepth 100000 in
theorem neqRef (a1 a2 a3 a4 b1 b2 b3 b4 : Int) {r : Bool} (h : ((a1 == b1) && ((a2 == b2) && ((a3 == b3) && (a4 == b4)))) = r) (w : World) :
    (binOp .neq 88 (.agg #[.int .i64 a1, .int .i64 a2, .int .i64 a3, .int .i64 a4]) (.agg #[.int .i64 b1, .int .i64 b2, .int .i64 b3, .int .i64 b4])).run Tryz.prog w = .ok (.bool !r) w := by
  subst h
  obtain ⟨f, g, h, k, h1, ⟨n1, n2, n3, n4⟩, ⟨t1, t2, t3, t4⟩, o1, o2, o3, o4⟩ := ref_fields
  rw [run_neq_struct, run_equalIn_struct w 9999 88 _ _ rfl (by kernel_rfl), h1]
  have he : ∀ a b : Int, ∀ w : World, (Op.equalIn 9999 3 (.int .i64 a) (.int .i64 b)).run Tryz.prog w = .ok (a == b) w := fun a b w => run_equalIn_int w 9998 3 .i64 .i64 a b Tryz.underlying3
  have hf : ∀ a b : Int, ∀ w : World, (Op.equalIn 9999 2 (.int .i64 a) (.int .i64 b)).run Tryz.prog w = .ok (a == b) w := fun a b w => run_equalIn_int w 9998 2 .i64 .i64 a b Tryz.underlying2
  simp only [Op.eqFields, t1, t2, t3, t4, o1, o2, o3, o4, if_pos n1, if_pos n2, if_pos n3, if_pos n4]
  simp [part, he, hf]
  cases hA : (a1 == b1) <;> cases hB : (a2 == b2) <;> cases hC : (a3 == b3) <;> cases hD : (a4 == b4) <;> simp_all
theorem ref_eq {r s : Rf} : ((r.num == s.num) && ((r.docs == s.docs) && ((r.level == s.level) && (r.dels == s.dels)))) = decide (r = s) := by
  cases r
  cases s
  rw [Bool.eq_iff_iff]
  simp
theorem man_eq {m k : Mf} : m = k ↔ m.gen = k.gen ∧ m.next = k.next ∧ m.refs = k.refs := by
  cases m
  cases k
  simp

set_option maxHeartbeats 8000000 in
set_option maxRecDepth 100000 in
theorem r15Same_any (w : World) (m m' : Mf) (A : Option Addr) (n c : Nat) (h : RefsIn w A n m.refs) (B : Option Addr) (k d : Nat) (h' : RefsIn w B k m'.refs) :
    Calls Tryz.prog 18 #[.agg #[.int .i64 m.gen, .int .i64 m.next, .slice A n c], .agg #[.int .i64 m'.gen, .int .i64 m'.next, .slice B k d]] w fun e w' => e = .returned (.bool (decide (m = m'))) ∧ Below w.heap.size w w' := by
  have hn63 := h.fit
  unfold maxLen at hn63
  have HLN := Lib.hid h.len
  have HLK := Lib.hid h'.len
  obtain ⟨w1, hw1⟩ : ∃ w1, w1 = w.alloc (.cells #[.int .i64 m.gen, .int .i64 m.next, .slice A n c] 24) := ⟨_, rfl⟩
  obtain ⟨w2, hw2⟩ : ∃ w2, w2 = w1.alloc (.cells #[.int .i64 m'.gen, .int .i64 m'.next, .slice B k d] 24) := ⟨_, rfl⟩
  obtain ⟨b1, hb1⟩ : ∃ b, b = w.heap.size := ⟨_, rfl⟩
  obtain ⟨b2, hb2⟩ : ∃ b, b = w.heap.size + 1 := ⟨_, rfl⟩
  have hs1 : w1.heap.size = w.heap.size + 1 := by rw [hw1]; simp
  have HK1 : Hid (Blk w2 b1 24 #[.int .i64 m.gen, .int .i64 m.next, .slice A n c]) := Lib.hid (by rw [hw2, hw1, hb1]; exact (Blk.new _ _ _).alloc _)
  have HK2 : Hid (Blk w2 b2 24 #[.int .i64 m'.gen, .int .i64 m'.next, .slice B k d]) := Lib.hid (by rw [hw2, hb2, ← hs1]; exact Blk.new _ _ _)
  have hbw1 : Below w.heap.size w w1 := by rw [hw1]; exact (Below.refl _ w).alloc (Nat.le_refl _) _
  have HBW : Hid (Below w.heap.size w w2) := Lib.hid (by rw [hw2]; exact hbw1.alloc hbw1.size _)
  have HI : Hid (RefsIn w2 A n m.refs) := Lib.hid (h.below HBW.out)
  have HJ : Hid (RefsIn w2 B k m'.refs) := Lib.hid (h'.below HBW.out)
  rw [hw1] at hw2
  have HW2 := Lib.hid hw2
  have HB1 := Lib.hid hb1
  have HB2 := Lib.hid hb2
  have HEQ := Lib.hid (man_eq (m := m) (k := m'))
  obtain ⟨G, hG⟩ : ∃ G, G = m.gen := ⟨_, rfl⟩
  obtain ⟨X, hX⟩ : ∃ X, X = m.next := ⟨_, rfl⟩
  obtain ⟨G', hG'⟩ : ∃ G, G = m'.gen := ⟨_, rfl⟩
  obtain ⟨X', hX'⟩ : ∃ X, X = m'.next := ⟨_, rfl⟩
  rw [← hG, ← hX] at HK1
  rw [← hG', ← hX'] at HK2
  rw [← hG, ← hX, ← hG', ← hX'] at HW2 HEQ
  rw [← hG, ← hX, ← hG', ← hX']
  have j0 := HK1.out.cell 0
  have j1 := HK1.out.cell 1
  have j2 := HK1.out.cell 2
  have k0 := HK2.out.cell 0
  have k1 := HK2.out.cell 1
  have k2 := HK2.out.cell 2
  simp only [List.getElem?_toArray, List.getElem?_cons_zero, List.getElem?_cons_succ] at j0 j1 j2 k0 k1 k2
  clear hw1 hw2 hb1 hb2 hs1 hbw1 h h' hG hX hG' hX'
  have HNE : Hid (¬ (G = G' ∧ X = X' ∧ n = k) → decide (m = m') = false) := Lib.hid (fun hn => decide_eq_false (fun e => by
    obtain ⟨e1, e2, e3⟩ := HEQ.out.1 e
    exact hn ⟨e1, e2, by rw [← HLN.out, ← HLK.out, e3]⟩))
  go_enter Tryz.func18, Tryz.ntmps18
  go_upto_region 1 with fail
  rw [← HW2.out, ← HB2.out, ← HB1.out]
  cases t0 : (G != G') with
  | true =>
    have HE := Lib.hid (HNE.out (fun hh => by rw [hh.1] at t0; simp at t0))
    clear HI HJ HK1 HK2
    go_wp2
    go_ret
    exact ⟨by rw [HE.out]; rfl, HBW.out⟩
  | false =>
    cases t1 : (X != X') with
    | true =>
      have HE := Lib.hid (HNE.out (fun hh => by rw [hh.2.1] at t1; simp at t1))
      clear HI HJ HK1 HK2
      go_wp2
      go_ret
      exact ⟨by rw [HE.out]; rfl, HBW.out⟩
    | false =>
      by_cases hnk : n = k
      · subst hnk
        have HGX : Hid (G = G' ∧ X = X') := Lib.hid ⟨by simpa using t0, by simpa using t1⟩
        have K2 : ∀ q, (w2.drewN q).cell? ⟨b1, 2, none⟩ = some (.slice A n c) := fun _ => j2
        have L2 : ∀ q, (w2.drewN q).cell? ⟨b2, 2, none⟩ = some (.slice B n d) := fun _ => k2
        have t2 : ((n : Int) != (n : Int)) = false := by simp
        go_wp2
        go_loopw [5] (fun iv wr => ∃ (i q : Nat), i ≤ n ∧ iv = .int .i64 i ∧ m.refs.take i = m'.refs.take i ∧ wr = w2.drewN q) (fun iv _ => n - (intOf iv).toNat)
        case atStart => exact ⟨0, 0, by omega, rfl, rfl, rfl⟩
        case round =>
          obtain ⟨i, q, hi, rfl, htk, rfl⟩ := hrel
          have HTK := Lib.hid htk
          clear htk
          rcases Nat.lt_or_ge i n with hlt | hge
          · have hlt' : (i : Int) < (n : Int) := by omega
            have p0 : (0 : Int) ≤ (i : Int) := by omega
            have hw1 : IntKind.i64.wrap ((i : Int) + 1) = (i : Int) + 1 := IntWalk.i64_in _ (by omega)
            obtain ⟨r, hr⟩ : ∃ r, m.refs[i]? = some r := ⟨_, List.getElem?_eq_getElem (by rw [HLN.out]; exact hlt)⟩
            obtain ⟨s, hs⟩ : ∃ s, m'.refs[i]? = some s := ⟨_, List.getElem?_eq_getElem (by rw [HLK.out]; exact hlt)⟩
            obtain ⟨pa, rfl, -, c0, c1, c2, c3, -⟩ := HI.out.at_ i r hr
            obtain ⟨pb, rfl, -, d0, d1, d2, d3, -⟩ := HJ.out.at_ i s hs
            obtain ⟨te, hte⟩ : ∃ te, te = decide (r = s) := ⟨_, rfl⟩
            have hne := fun u : World => neqRef r.num r.docs r.level r.dels s.num s.docs s.level s.dels (ref_eq.trans hte.symm) u
            have HTE := Lib.hid hte
            have HRR := Lib.hid hr
            have HSS := Lib.hid hs
            have C0 : ∀ q, (w2.drewN q).cell? (pa.add (i * 4)) = some (.int .i64 r.num) := fun _ => c0
            have C1 : ∀ q, (w2.drewN q).cell? ⟨(pa.add (i * 4)).block, (pa.add (i * 4)).off + 1, none⟩ = some (.int .i64 r.docs) := fun _ => c1
            have C2 : ∀ q, (w2.drewN q).cell? ⟨(pa.add (i * 4)).block, (pa.add (i * 4)).off + 2, none⟩ = some (.int .i64 r.level) := fun _ => c2
            have C3 : ∀ q, (w2.drewN q).cell? ⟨(pa.add (i * 4)).block, (pa.add (i * 4)).off + 3, none⟩ = some (.int .i64 r.dels) := fun _ => c3
            have D0 : ∀ q, (w2.drewN q).cell? (pb.add (i * 4)) = some (.int .i64 s.num) := fun _ => d0
            have D1 : ∀ q, (w2.drewN q).cell? ⟨(pb.add (i * 4)).block, (pb.add (i * 4)).off + 1, none⟩ = some (.int .i64 s.docs) := fun _ => d1
            have D2 : ∀ q, (w2.drewN q).cell? ⟨(pb.add (i * 4)).block, (pb.add (i * 4)).off + 2, none⟩ = some (.int .i64 s.level) := fun _ => d2
            have D3 : ∀ q, (w2.drewN q).cell? ⟨(pb.add (i * 4)).block, (pb.add (i * 4)).off + 3, none⟩ = some (.int .i64 s.dels) := fun _ => d3
            clear hte hr hs c0 c1 c2 c3 d0 d1 d2 d3
            cases te with
            | true =>
              have HRS : Hid (r = s) := Lib.hid (of_decide_eq_true HTE.out.symm)
              go_wp2
              go_quiet (fail)
              go_wp2
              go_roundw
              case rel => exact ⟨i + 1, _, by omega, by go_num, by rw [List.take_add_one, List.take_add_one, HTK.out, HRR.out, HSS.out, HRS.out], rfl⟩
              case measure => simp [intOf]; omega
            | false =>
              have HE : Hid (decide (m = m') = false) := Lib.hid (decide_eq_false (fun e => by
                have e3 := (HEQ.out.1 e).2.2
                have h1 := HRR.out
                rw [e3, HSS.out] at h1
                exact (of_decide_eq_false HTE.out.symm) (Option.some.inj h1).symm))
              go_wp2
              go_quiet (fail)
              go_wp2
              go_ret
              exact ⟨by rw [HE.out]; rfl, below_drewN (below_drewN HBW.out _) _⟩
          · have hlz : ¬ ((i : Int) < (n : Int)) := by omega
            have HE : Hid (decide (m = m') = true) := Lib.hid (decide_eq_true (HEQ.out.2 ⟨HGX.out.1, HGX.out.2, by
              have h1 := HTK.out
              rw [List.take_of_length_le (by rw [HLN.out]; exact hge), List.take_of_length_le (by rw [HLK.out]; exact hge)] at h1
              exact h1⟩))
            go_wp2
            go_ret
            exact ⟨by rw [HE.out]; rfl, below_drewN HBW.out _⟩
      · have t2 : ((n : Int) != (k : Int)) = true := by simp only [bne_iff_ne]; omega
        have HE := Lib.hid (HNE.out (fun hh => hnk hh.2.2))
        clear HI HJ HK1 HK2
        go_wp2
        go_ret
        exact ⟨by rw [HE.out]; rfl, HBW.out⟩
end Go.Proofs.YtmhiekbpmoikfaaGreatDoor
