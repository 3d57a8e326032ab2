/- A vocabulary's bytes, and what bytes are: there and back. -/
import Derived.Test.YtecpihghlelefaaLMath2
import Derived.Test.YtecpihghlelefaaVBMath3
namespace Go.Proofs.Ytecpihghlelefaa

/-- What a reader has ahead of it, without an error. -/
structure Ahead (s : Rd) (l : List UInt8) : Prop where
  ok : s.e = 0
  place : s.p ≤ s.bs.length
  rest : s.bs.drop s.p = l
theorem rInt_put {s : Rd} {n : Nat} {rest : List UInt8} (h : Ahead s (putL n ++ rest)) (hn : n < 2 ^ 64) {most : Int} (hm : (n : Int) ≤ most) : ∃ s', rInt s most = ((n : Int), s') ∧ Ahead s' rest ∧ s'.bs = s.bs := by
  have hg := getL_put hn rest
  refine ⟨{ s with p := s.p + (putL n).length }, ?_, ⟨h.ok, ?_, ?_⟩, rfl⟩
  · unfold rInt
    rw [h.rest, hg, if_neg (by rw [h.ok]; simp), if_neg (by simp), if_neg (by simp only; omega)]
  · have h1 := congrArg List.length h.rest
    have h2 := h.place
    simp only [List.length_drop, List.length_append] at h1
    simp only
    omega
  · simp only
    rw [← List.drop_drop, h.rest, List.drop_append_of_le_length (Nat.le_refl _), List.drop_length]
    rfl
theorem rText_put {s : Rd} {x rest : List UInt8} (h : Ahead s (putL x.length ++ (x ++ rest))) (hn : x.length < 2 ^ 64) {most : Int} (hm : (x.length : Int) ≤ most) : ∃ s', rText s most = (x, s') ∧ Ahead s' rest ∧ s'.bs = s.bs := by
  obtain ⟨s1, e1, h1, hb⟩ := rInt_put h hn hm
  unfold rText
  rw [e1]
  unfold rBytes
  have hl := congrArg List.length h1.rest
  have hp := h1.place
  simp only [List.length_drop, List.length_append] at hl
  by_cases h0 : x.length = 0
  · have hx : x = [] := List.eq_nil_of_length_eq_zero h0
    subst hx
    refine ⟨s1, by simp, ⟨h1.ok, h1.place, by simpa using h1.rest⟩, hb⟩
  · refine ⟨{ s1 with p := s1.p + x.length }, ?_, ⟨h1.ok, by simp only; omega, ?_⟩, hb⟩
    · rw [if_neg (by rw [h1.ok]; simp only; omega), if_neg (by simp only; omega)]
      simp only [Int.toNat_natCast]
      rw [h1.rest, List.take_append_of_le_length (Nat.le_refl _), List.take_length]
    · simp only
      rw [← List.drop_drop, h1.rest, List.drop_append_of_le_length (Nat.le_refl _), List.drop_length]
      rfl
theorem rInt_inv {s s' : Rd} (hs : s.Ok) {most v : Int} (h : rInt s most = (v, s')) (he : s'.e = 0) : s.e = 0 ∧ 0 ≤ v ∧ v ≤ most ∧ s.bs.drop s.p = putL v.toNat ++ s.bs.drop s'.p ∧ s'.bs = s.bs ∧ s'.Ok ∧ v.toNat < 2 ^ 64 := by
  have hok := rInt_ok hs most
  rw [h] at hok
  unfold rInt at h
  split at h
  · rename_i h1
    cases h
    exact absurd he h1
  · rename_i h1
    split at h
    · rename_i h2
      cases h
      exact absurd he h2
    · rename_i h2
      split at h
      · cases h
        simp at he
      · rename_i h3
        rcases hg : getL (s.bs.drop s.p) with ⟨n, k, e⟩
        rw [hg] at h h2 h3
        simp only at h h2 h3
        have he0 : e = 0 := by simpa using h2
        subst he0
        obtain ⟨g1, g2, g3, g4, g5⟩ := getL_inv hg
        cases h
        refine ⟨by simpa using h1, by omega, by omega, ?_, rfl, hok.1, by rw [Int.toNat_natCast]; exact g5⟩
        rw [Int.toNat_natCast, ← g4, ← List.drop_drop, List.take_append_drop]
theorem rText_inv {s s' : Rd} (hs : s.Ok) {most : Int} {x : List UInt8} (h : rText s most = (x, s')) (he : s'.e = 0) : s.e = 0 ∧ s.bs.drop s.p = putL x.length ++ (x ++ s.bs.drop s'.p) ∧ s'.bs = s.bs ∧ s'.Ok := by
  obtain ⟨v, s1, h1⟩ : ∃ v s1, rInt s most = (v, s1) := ⟨_, _, rfl⟩
  have hok1 := rInt_ok hs most
  have hokT := rText_ok hs most
  rw [h] at hokT
  rw [h1] at hok1
  unfold rText at h
  rw [h1] at h
  unfold rBytes at h
  simp only at h
  split at h
  · rename_i hc
    cases h
    obtain ⟨a1, a2, a3, a4, a5, a6, _⟩ := rInt_inv hs h1 he
    have hv : v = 0 := by rcases hc with hc | hc; exact absurd he hc; omega
    rw [hv] at a4
    exact ⟨a1, by simpa using a4, a5, a6⟩
  · rename_i hc
    split at h
    · cases h
      simp at he
    · rename_i hc2
      cases h
      obtain ⟨a1, a2, a3, a4, a5, a6, _⟩ := rInt_inv hs h1 he
      have hvl : ((s1.bs.drop s1.p).take v.toNat).length = v.toNat := by rw [List.length_take, List.length_drop]; omega
      refine ⟨a1, ?_, a5, hokT.1⟩
      rw [hvl, a4, a5, ← List.drop_drop, List.take_append_drop]

def tokB (L : List Nm) : List UInt8 := L.flatMap fun x => putL x.length ++ x
def merB (M : List Mg) : List UInt8 := M.flatMap fun m => putL m.a.toNat ++ (putL m.b.toNat ++ putL m.t.toNat)
def putV (V : Voc) : List UInt8 := putL V.tok.length ++ (tokB V.tok ++ (putL V.mer.length ++ merB V.mer))
def readTok : Nat → Rd → List Nm → List Nm × Rd
  | 0, s, acc => (acc, s)
  | n + 1, s, acc => readTok n (rText s 16).2 (acc ++ [(rText s 16).1])
def rMer (s : Rd) : Mg × Rd :=
  (⟨(rInt s 512).1, (rInt (rInt s 512).2 512).1, (rInt (rInt (rInt s 512).2 512).2 512).1⟩, (rInt (rInt (rInt s 512).2 512).2 512).2)
def readMer : Nat → Rd → List Mg → List Mg × Rd
  | 0, s, acc => (acc, s)
  | n + 1, s, acc => readMer n (rMer s).2 (acc ++ [(rMer s).1])
def readT (s : Rd) : List Nm × Rd := readTok (rInt s 512).1.toNat (rInt s 512).2 []
def readM (s : Rd) : List Mg × Rd := readMer (rInt s 512).1.toNat (rInt s 512).2 []
def getV (b : List UInt8) : Voc × Int :=
  let t := readT ⟨b, 0, 0⟩
  let m := readM t.2
  if m.2.e ≠ 0 then (⟨[], []⟩, m.2.e)
  else if 0 < rLeft m.2 then (⟨[], []⟩, 3)
  else if checkV ⟨t.1, m.1⟩ ≠ 0 then (⟨[], []⟩, checkV ⟨t.1, m.1⟩)
  else (⟨t.1, m.1⟩, 0)
theorem readTok_put : ∀ (L acc : List Nm) (s : Rd) (rest : List UInt8), (∀ x ∈ L, x.length ≤ 16) → Ahead s (tokB L ++ rest) → ∃ s', readTok L.length s acc = (acc ++ L, s') ∧ Ahead s' rest ∧ s'.bs = s.bs
  | [], acc, s, rest, _, h => ⟨s, by simp [readTok], by simpa [tokB] using h, rfl⟩
  | x :: r, acc, s, rest, hl, h => by
    have hx := hl x (List.mem_cons_self ..)
    have h' : Ahead s (putL x.length ++ (x ++ (tokB r ++ rest))) := by
      have e : tokB (x :: r) ++ rest = putL x.length ++ (x ++ (tokB r ++ rest)) := by simp [tokB, List.append_assoc]
      rw [← e]; exact h
    obtain ⟨s1, e1, h1, b1⟩ := rText_put h' (by omega) (most := 16) (by omega)
    obtain ⟨s2, e2, h2, b2⟩ := readTok_put r (acc ++ [x]) s1 rest (fun y hy => hl y (List.mem_cons_of_mem _ hy)) h1
    refine ⟨s2, ?_, h2, b2.trans b1⟩
    rw [List.length_cons, readTok, e1]
    simp only
    rw [e2]
    simp
theorem readMer_put : ∀ (M acc : List Mg) (s : Rd) (rest : List UInt8), (∀ m ∈ M, (0 ≤ m.a ∧ m.a ≤ 512) ∧ (0 ≤ m.b ∧ m.b ≤ 512) ∧ (0 ≤ m.t ∧ m.t ≤ 512)) → Ahead s (merB M ++ rest) → ∃ s', readMer M.length s acc = (acc ++ M, s') ∧ Ahead s' rest ∧ s'.bs = s.bs
  | [], acc, s, rest, _, h => ⟨s, by simp [readMer], by simpa [merB] using h, rfl⟩
  | m :: r, acc, s, rest, hl, h => by
    obtain ⟨⟨ha0, ha⟩, ⟨hb0, hb⟩, ⟨ht0, ht⟩⟩ := hl m (List.mem_cons_self ..)
    have h' : Ahead s (putL m.a.toNat ++ (putL m.b.toNat ++ (putL m.t.toNat ++ (merB r ++ rest)))) := by
      have e : merB (m :: r) ++ rest = putL m.a.toNat ++ (putL m.b.toNat ++ (putL m.t.toNat ++ (merB r ++ rest))) := by simp [merB, List.append_assoc]
      rw [← e]; exact h
    obtain ⟨s1, e1, h1, b1⟩ := rInt_put h' (by omega) (most := 512) (by omega)
    obtain ⟨s2, e2, h2, b2⟩ := rInt_put h1 (by omega) (most := 512) (by omega)
    obtain ⟨s3, e3, h3, b3⟩ := rInt_put h2 (by omega) (most := 512) (by omega)
    obtain ⟨s4, e4, h4, b4⟩ := readMer_put r (acc ++ [m]) s3 rest (fun y hy => hl y (List.mem_cons_of_mem _ hy)) h3
    have em : rMer s = (m, s3) := by
      unfold rMer
      rw [e1]; simp only; rw [e2]; simp only; rw [e3]
      simp only [Prod.mk.injEq, and_true]
      rw [Int.toNat_of_nonneg ha0, Int.toNat_of_nonneg hb0, Int.toNat_of_nonneg ht0]
    refine ⟨s4, ?_, h4, b4.trans (b3.trans (b2.trans b1))⟩
    rw [List.length_cons, readMer, em]
    simp only
    rw [e4]
    simp
/-- What checks is read back. -/
theorem check_bounds {V : Voc} (h : checkV V = 0) : V.tok.length ≤ 512 ∧ V.mer.length ≤ 512 ∧ (∀ x ∈ V.tok, x.length ≤ 16) ∧ ∀ m ∈ V.mer, (0 ≤ m.a ∧ m.a ≤ 512) ∧ (0 ≤ m.b ∧ m.b ≤ 512) ∧ (0 ≤ m.t ∧ m.t ≤ 512) := by
  unfold checkV at h
  split at h
  · omega
  rename_i h1
  split at h
  · omega
  rename_i h2
  split at h
  · omega
  split at h
  · omega
  rename_i h4
  have h2' : (List.range V.tok.length).all (tokOk V.tok) = true := by simpa using h2
  have h4' : (List.range V.mer.length).all (merOk V) = true := by simpa using h4
  rw [List.all_eq_true] at h2' h4'
  refine ⟨by omega, by omega, fun x hx => (tokOk_short (fun k hk => h2' k (List.mem_range.2 hk)) x hx).2, fun m hm => ?_⟩
  obtain ⟨i, hi, rfl⟩ := List.mem_iff_getElem.1 hm
  obtain ⟨hb, -, -⟩ := (merOk_iff (List.getElem?_eq_getElem hi)).1 (h4' i (List.mem_range.2 hi))
  omega
theorem getV_put {V : Voc} (h : checkV V = 0) : getV (putV V) = (V, 0) := by
  obtain ⟨h1, h2, h3, h4⟩ := check_bounds h
  have h0 : Ahead ⟨putV V, 0, 0⟩ (putL V.tok.length ++ (tokB V.tok ++ (putL V.mer.length ++ (merB V.mer ++ [])))) := ⟨rfl, Nat.zero_le _, by simp [putV]⟩
  obtain ⟨s1, e1, a1, b1⟩ := rInt_put h0 (by omega) (most := 512) (by omega)
  obtain ⟨s2, e2, a2, b2⟩ := readTok_put V.tok [] s1 _ h3 a1
  obtain ⟨s3, e3, a3, b3⟩ := rInt_put a2 (by omega) (most := 512) (by omega)
  obtain ⟨s4, e4, a4, b4⟩ := readMer_put V.mer [] s3 _ h4 a3
  have ht : readT ⟨putV V, 0, 0⟩ = (V.tok, s2) := by
    unfold readT
    rw [e1]
    simp only [Int.toNat_natCast]
    rw [e2]; simp
  have hm : readM s2 = (V.mer, s4) := by
    unfold readM
    rw [e3]
    simp only [Int.toNat_natCast]
    rw [e4]; simp
  have hl : rLeft s4 = 0 := by
    have h5 := congrArg List.length a4.rest
    unfold rLeft
    rw [if_neg (by rw [a4.ok]; simp)]
    simpa using h5
  unfold getV
  simp only [ht, hm]
  rw [if_neg (by rw [a4.ok]; simp), if_neg (by omega), if_neg (by rw [show (⟨V.tok, V.mer⟩ : Voc) = V from rfl, h]; simp)]
theorem readTok_inv : ∀ (n : Nat) (acc : List Nm) (s s' : Rd) (L : List Nm), s.Ok → readTok n s acc = (L, s') → s'.e = 0 → ∃ T, L = acc ++ T ∧ T.length = n ∧ s.e = 0 ∧ s.bs.drop s.p = tokB T ++ s.bs.drop s'.p ∧ s'.bs = s.bs ∧ s'.Ok
  | 0, acc, s, s', L, hs, h, he => by
    simp only [readTok] at h
    cases h
    exact ⟨[], by simp, rfl, he, by simp [tokB], rfl, hs⟩
  | n + 1, acc, s, s', L, hs, h, he => by
    obtain ⟨x, s1, h1⟩ : ∃ x s1, rText s 16 = (x, s1) := ⟨_, _, rfl⟩
    simp only [readTok, h1] at h
    have hok := rText_ok hs 16
    rw [h1] at hok
    obtain ⟨T, e1, e2, e3, e4, e5, e6⟩ := readTok_inv n _ s1 s' L hok.1 h he
    obtain ⟨a1, a2, a3, a4⟩ := rText_inv hs h1 e3
    refine ⟨x :: T, by rw [e1]; simp, by simp [e2], a1, ?_, e5.trans a3, e6⟩
    rw [a2, ← a3, e4]
    simp [tokB, List.append_assoc]
theorem rMer_inv {s s' : Rd} {m : Mg} (hs : s.Ok) (h : rMer s = (m, s')) (he : s'.e = 0) : s.e = 0 ∧ s.bs.drop s.p = putL m.a.toNat ++ (putL m.b.toNat ++ (putL m.t.toNat ++ s.bs.drop s'.p)) ∧ s'.bs = s.bs ∧ s'.Ok := by
  obtain ⟨a, s1, h1⟩ : ∃ x s1, rInt s 512 = (x, s1) := ⟨_, _, rfl⟩
  obtain ⟨b, s2, h2⟩ : ∃ x s2, rInt s1 512 = (x, s2) := ⟨_, _, rfl⟩
  obtain ⟨t, s3, h3⟩ : ∃ x s3, rInt s2 512 = (x, s3) := ⟨_, _, rfl⟩
  unfold rMer at h
  simp only [h1, h2, h3] at h
  cases h
  have k1 := rInt_ok hs 512
  rw [h1] at k1
  have k2 := rInt_ok k1.1 512
  rw [h2] at k2
  obtain ⟨c1, _, _, c4, c5, c6, _⟩ := rInt_inv k2.1 h3 he
  obtain ⟨d1, _, _, d4, d5, d6, _⟩ := rInt_inv k1.1 h2 c1
  obtain ⟨f1, _, _, f4, f5, f6, _⟩ := rInt_inv hs h1 d1
  refine ⟨f1, ?_, c5.trans (d5.trans f5), c6⟩
  simp only at f4 d4 c4 ⊢
  rw [f4, ← f5, d4, ← d5, c4]
theorem readMer_inv : ∀ (n : Nat) (acc : List Mg) (s s' : Rd) (L : List Mg), s.Ok → readMer n s acc = (L, s') → s'.e = 0 → ∃ M, L = acc ++ M ∧ M.length = n ∧ s.e = 0 ∧ s.bs.drop s.p = merB M ++ s.bs.drop s'.p ∧ s'.bs = s.bs ∧ s'.Ok
  | 0, acc, s, s', L, hs, h, he => by
    simp only [readMer] at h
    cases h
    exact ⟨[], by simp, rfl, he, by simp [merB], rfl, hs⟩
  | n + 1, acc, s, s', L, hs, h, he => by
    obtain ⟨m, s1, h1⟩ : ∃ x s1, rMer s = (x, s1) := ⟨_, _, rfl⟩
    simp only [readMer, h1] at h
    have hok : s1.Ok := by
      have k1 := rInt_ok hs 512
      have k2 := rInt_ok k1.1 512
      have k3 := rInt_ok k2.1 512
      have e : s1 = (rMer s).2 := by rw [h1]
      rw [e]
      exact k3.1
    obtain ⟨M, e1, e2, e3, e4, e5, e6⟩ := readMer_inv n _ s1 s' L hok h he
    obtain ⟨a1, a2, a3, a4⟩ := rMer_inv hs h1 e3
    refine ⟨m :: M, by rw [e1]; simp, by simp [e2], a1, ?_, e5.trans a3, e6⟩
    rw [a2, ← a3, e4]
    simp [merB, List.append_assoc]
theorem putV_get {b : List UInt8} {V : Voc} (h : getV b = (V, 0)) : putV V = b ∧ checkV V = 0 := by
  unfold getV at h
  obtain ⟨n, s1, h1⟩ : ∃ x s1, rInt ⟨b, 0, 0⟩ 512 = (x, s1) := ⟨_, _, rfl⟩
  obtain ⟨T, s2, h2⟩ : ∃ x s2, readTok n.toNat s1 [] = (x, s2) := ⟨_, _, rfl⟩
  obtain ⟨k, s3, h3⟩ : ∃ x s3, rInt s2 512 = (x, s3) := ⟨_, _, rfl⟩
  obtain ⟨M, s4, h4⟩ : ∃ x s4, readMer k.toNat s3 [] = (x, s4) := ⟨_, _, rfl⟩
  have ht : readT ⟨b, 0, 0⟩ = (T, s2) := by unfold readT; rw [h1]; exact h2
  have hm : readM s2 = (M, s4) := by unfold readM; rw [h3]; exact h4
  simp only [ht, hm] at h
  split at h
  · rename_i hc; exact absurd (Prod.mk.inj h).2 hc
  rename_i hc1
  split at h
  · exact absurd (Prod.mk.inj h).2 (by decide)
  rename_i hc2
  split at h
  · rename_i hc; exact absurd (Prod.mk.inj h).2 hc
  rename_i hc3
  have hV := (Prod.mk.inj h).1
  have he : s4.e = 0 := by simpa using hc1
  have ok0 : (⟨b, 0, 0⟩ : Rd).Ok := ⟨Nat.zero_le _⟩
  have k1 := rInt_ok ok0 512
  rw [h1] at k1
  -- the places, from the end back
  have ok2 : s2.Ok := by
    have : ∀ (n : Nat) (s : Rd) (acc : List Nm), s.Ok → (readTok n s acc).2.Ok := fun n => by
      induction n with
      | zero => intro s acc hs; exact hs
      | succ n ih => intro s acc hs; exact ih _ _ (rText_ok hs 16).1
    have := this n.toNat s1 [] k1.1
    rw [h2] at this
    exact this
  have k3 := rInt_ok ok2 512
  rw [h3] at k3
  obtain ⟨M', m1, m2, m3, m4, m5, m6⟩ := readMer_inv _ _ _ _ _ k3.1 h4 he
  obtain ⟨q1, q2, q3, q4, q5, q6, q7⟩ := rInt_inv ok2 h3 m3
  obtain ⟨T', t1, t2, t3, t4, t5, t6⟩ := readTok_inv _ _ _ _ _ k1.1 h2 q1
  obtain ⟨p1, p2, p3, p4, p5, p6, p7⟩ := rInt_inv ok0 h1 t3
  have hM : M = M' := by simpa using m1
  have hT : T = T' := by simpa using t1
  subst hM hT
  have hend : s3.bs.drop s4.p = [] := by
    have : rLeft s4 = 0 := by omega
    unfold rLeft at this
    rw [if_neg (by simpa using hc1)] at this
    apply List.drop_of_length_le
    rw [← m5]
    omega
  refine ⟨?_, by rw [← hV]; simpa using hc3⟩
  rw [← hV]
  unfold putV
  simp only
  rw [t2, m2]
  have e1 : b = putL n.toNat ++ s1.bs.drop s1.p := by
    have h5 : s1.bs = b := p5
    rw [h5]
    simpa using p4
  have e2 : s1.bs.drop s1.p = tokB T ++ s2.bs.drop s2.p := by rw [t5]; exact t4
  have e3 : s2.bs.drop s2.p = putL k.toNat ++ s3.bs.drop s3.p := by rw [show s3.bs = s2.bs from q5]; exact q4
  have e4 : s3.bs.drop s3.p = merB M := by
    have h5 : s3.bs.drop s3.p = merB M ++ s3.bs.drop s4.p := m4
    rw [h5, hend, List.append_nil]
  rw [← e4, ← e3, ← e2]
  exact e1.symm
end Go.Proofs.Ytecpihghlelefaa
