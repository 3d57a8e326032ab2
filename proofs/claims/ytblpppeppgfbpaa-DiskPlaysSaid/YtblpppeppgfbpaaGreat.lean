/- How much the calls are that came in. -/
import Derived.Test.YtblpppeppgfbpaaOpsIn
namespace Go.Proofs.Ytblpppeppgfbpaa
open Go.RowKit Go.Maps Go.WideMaps

def opSize (o : OpV) : Nat := min o.a.size 1000 + min o.bn 300000 + o.k
def opsSize (l : List OpV) : Nat := (l.map opSize).sum
theorem opsSize_snoc (l : List OpV) (o : OpV) : opsSize (l ++ [o]) = opsSize l + opSize o := by simp [opsSize]
theorem take_snoc' {α : Type} (l : List α) (i : Nat) (x : α) (h : l[i]? = some x) : l.take (i + 1) = l.take i ++ [x] := by
  rw [List.take_add_one, h]; rfl

def GreatEnd (w : World) (l : List OpV) (e : Ending) (w' : World) : Prop := ∃ (g : Bool) (m : Nat), e = .returned (.bool g) ∧ w' = w.drewN m ∧ (g = false → l.length ≤ 300 ∧ opsSize l < 300000)

set_option maxHeartbeats 2000000 in
set_option maxRecDepth 100000 in
theorem Great_any {w : World} {A : Option Addr} {n : Nat} {l : List OpV} (h : OpsIn w A n l) (c : Nat) :
    Calls Try.prog 6 #[.slice A n c] w (GreatEnd w l) := by
  have hn := h.len
  have hbig := h.big
  have H := Lib.hid h
  have HN := Lib.hid hn
  clear h hn
  have hbig2 : n ≤ 1599289641265 := by omega
  clear hbig
  go_enter Try.func6, Try.ntmps6
  go_wp2
  go_loopw [3, 4] (fun s i wr => ∃ k m : Nat, k ≤ n ∧ i = .int .i64 k ∧ s = .int .i64 ((n + opsSize (l.take k) : Nat) : Int) ∧ n + opsSize (l.take k) ≤ 35184372090000000 ∧ wr = w.drewN m) (fun _ i _ => n - (intOf i).toNat)
  case atStart => exact ⟨0, 0, Nat.zero_le _, rfl, by simp [opsSize], by simp [opsSize]; omega, rfl⟩
  case round =>
    obtain ⟨k, m, hk, rfl, rfl, hs, rfl⟩ := hrel
    by_cases hc : k < n
    · by_cases h3 : n + opsSize (l.take k) < 300000
      · have HL := HN.out
        cases A with
        | none => have := H.out.nil rfl; omega
        | some ad =>
          obtain ⟨o, ho⟩ : ∃ o, l[k]? = some o := ⟨_, List.getElem?_eq_getElem (by omega)⟩
          have hin := H.out.op o (List.mem_of_getElem? ho)
          have h1 := hin.na
          have h2 := hin.nb
          have h4 := hin.nk
          have c1 : ∀ q, (w.drewN q).cell? ⟨(ad.add (k * 6)).block, (ad.add (k * 6)).off + 1, none⟩ = some (.string o.a) := fun _ => H.out.field ho 0 rfl
          have c2 : ∀ q, (w.drewN q).cell? ⟨(ad.add (k * 6)).block, (ad.add (k * 6)).off + 2, none⟩ = some (.slice o.B o.bn o.bc) := fun _ => H.out.field ho 1 rfl
          have c5 : ∀ q, (w.drewN q).cell? ⟨(ad.add (k * 6)).block, (ad.add (k * 6)).off + 4 + 1, none⟩ = some (.slice o.C o.k o.cc) := fun _ => H.out.field ho 4 rfl
          have hsn : opsSize (l.take (k + 1)) = opsSize (l.take k) + opSize o := by rw [take_snoc' l k o ho, opsSize_snoc]
          have HS := Lib.hid hsn
          clear hin hsn HL
          obtain ⟨blk, off, sp⟩ := ad
          generalize hS : opsSize (l.take k) = S at *
          have HSS := Lib.hid hS
          have HO := Lib.hid ho
          clear hS ho hk
          generalize ht : ((n + S : Nat) : Int) = t at *
          have h3i : t < 300000 := by omega
          have h0i : 0 ≤ t := by omega
          have HT := Lib.hid ht
          have H3 := Lib.hid h3
          clear ht h3 hs
          go_wp2
          go_quiet (fail)
          go_wp2
          go_roundw
          case rel =>
            have e1 := HS.out
            have e2 := HT.out
            have e3 := H3.out
            have e4 : opSize o = min o.a.size 1000 + min o.bn 300000 + o.k := rfl
            exact ⟨k + 1, m + nq, by omega, by go_num, by rw [e1, e4]; congr 1; omega, by rw [e1, e4]; omega, rfl⟩
          case measure => simp [intOf]; omega
      · have hS : (300000 : Int) ≤ ((n + opsSize (l.take k) : Nat) : Int) := by omega
        generalize ht : ((n + opsSize (l.take k) : Nat) : Int) = t at *
        have HT := Lib.hid ht
        clear ht h3 hs hbig2
        go_wp2
        go_ret
        exact ⟨true, m, rfl, rfl, fun e => by cases e⟩
    · obtain rfl : k = n := by omega
      have hl : l.take k = l := List.take_of_length_le (by have := HN.out; omega)
      rw [hl] at hs ⊢
      clear hl hc
      generalize ht : ((k + opsSize l : Nat) : Int) = t at *
      have HT := Lib.hid ht
      clear hs ht
      go_wp2
      all_goals go_ret
      all_goals
        refine ⟨_, m, rfl, rfl, fun e => ?_⟩
        have := HT.out
        have := HN.out
        simp at e
        try omega
end Go.Proofs.Ytblpppeppgfbpaa
