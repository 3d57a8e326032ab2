/- One merge of two unlike bytes: its tokens are what a look from left to right finds. -/
import Derived.Test.YtimbimnbaoaboaaELaws4
namespace Go.Proofs.Ytimbimnbaoaboaa
open Go.RowKit Go.Maps Go.WideMaps
set_option linter.unusedSimpArgs false

/-- From left to right, each a with a b behind it is one. -/
def scanI (a b : Int) : List Int → List Int
  | [] => []
  | [x] => [x]
  | x :: y :: r => if x = a ∧ y = b then 256 :: scanI a b r else x :: scanI a b (y :: r)
theorem scanI_other {a b x : Int} (h : x ≠ a) (r : List Int) : scanI a b (x :: r) = x :: scanI a b r := by
  cases r with
  | nil => simp [scanI]
  | cons y r => rw [scanI, if_neg fun e => h e.1]
theorem scanI_next {a b x y : Int} (h : y ≠ b) (r : List Int) : scanI a b (x :: y :: r) = x :: scanI a b (y :: r) := by rw [scanI, if_neg fun e => h e.2]
theorem scanI_pair (a b : Int) (r : List Int) : scanI a b (a :: b :: r) = 256 :: scanI a b r := by rw [scanI, if_pos ⟨rfl, rfl⟩]
/-- To merge a pair anywhere leaves it as it is. -/
theorem scanI_merge {a b : Int} (hab : a ≠ b) (ha : a ≠ 256) (hb : b ≠ 256) : ∀ (i : Nat) (l : List Int), l[i]? = some a → l[i + 1]? = some b → scanI a b (mergeAt l i 256) = scanI a b l
  | 0, l, h1, h2 => by
    match l, h1, h2 with
    | x :: y :: r, h1, h2 =>
      simp at h1 h2
      subst h1 h2
      rw [scanI_pair]
      exact scanI_other (fun e => ha e.symm) r
  | 1, l, h1, h2 => by
    match l, h1, h2 with
    | z :: x :: y :: r, h1, h2 =>
      simp at h1 h2
      subst h1 h2
      rw [scanI_next hab, scanI_pair]
      show scanI x y (z :: 256 :: r) = _
      rw [scanI_next (fun e => hb e.symm), scanI_other (fun e => ha e.symm)]
  | i + 2, l, h1, h2 => by
    match l, h1, h2 with
    | x :: y :: r, h1, h2 =>
      simp only [List.getElem?_cons_succ] at h1 h2
      have e1 : mergeAt (x :: y :: r) (i + 2) 256 = x :: y :: mergeAt r i 256 := rfl
      have e2 : y :: mergeAt r i 256 = mergeAt (y :: r) (i + 1) 256 := rfl
      rw [e1]
      by_cases h : x = a ∧ y = b
      · obtain ⟨rfl, rfl⟩ := h
        rw [scanI_pair, scanI_pair, scanI_merge hab ha hb i r h1 h2]
      · rw [scanI, if_neg h, scanI, if_neg h, e2, scanI_merge hab ha hb (i + 1) (y :: r) (by simpa using h1) (by simpa using h2)]
theorem scanI_done {a b : Int} : ∀ (l : List Int), (∀ i, ¬ (l[i]? = some a ∧ l[i + 1]? = some b)) → scanI a b l = l
  | [], _ => rfl
  | [x], _ => rfl
  | x :: y :: r, h => by
    rw [scanI, if_neg fun e => h 0 (by simp [e.1, e.2]), scanI_done (y :: r) fun i e => h (i + 1) (by simpa using e)]
theorem one_rk {a b x y : Int} {t : Int} {k : Nat} (h : rkOf [⟨a, b, t⟩] x y = some k) : k = 0 ∧ x = a ∧ y = b := by
  obtain ⟨h1, m, h2, h3, h4⟩ := rkOf_lt h
  have hk : k = 0 := by simp at h1; omega
  subst hk
  simp at h2
  subst h2
  exact ⟨rfl, h3.symm, h4.symm⟩
theorem encL_one {a b : Int} (hab : a ≠ b) (ha : a ≠ 256) (hb : b ≠ 256) (s : Nm) : encL [⟨a, b, 256⟩] s = scanI a b (bytesI s) := by
  have h1 : scanI a b (encL [⟨a, b, 256⟩] s) = scanI a b (bytesI s) := by
    unfold encL
    refine encRun_keeps (M := [⟨a, b, 256⟩]) (Q := fun l => scanI a b l = scanI a b (bytesI s)) ?_ _ _ rfl
    intro l i k hl hk
    obtain ⟨x, y, hx, hy, h3⟩ := pairRk_some hk
    obtain ⟨rfl, rfl, rfl⟩ := one_rk h3
    rw [← hl]
    exact scanI_merge hab ha hb i l hx hy
  rw [← h1, scanI_done]
  intro i ⟨h2, h3⟩
  exact enc_none [⟨a, b, 256⟩] s h2 h3 (k := 0) rfl ⟨rfl, rfl⟩
theorem ofV_nil : (ofV []).mer = [] := rfl
theorem ofV_one {a b : Nat} (ha : a < 256) (hb : b < 256) : (ofV [((a : Int), (b : Int))]).mer = [⟨(a : Int), (b : Int), 256⟩] := by
  have hbt : bothT ⟨ones, []⟩ (a : Int) (b : Int) = [UInt8.ofNat a, UInt8.ofNat b] := by
    unfold bothT
    simp [List.getD_eq_getElem?_getD, ones_at ha, ones_at hb]
  have hf : findT ones [UInt8.ofNat a, UInt8.ofNat b] = -1 := findT_none fun x hx e => by
    obtain ⟨c, _, rfl⟩ := List.mem_map.1 hx
    simp at e
  have he : pairErr ⟨ones, []⟩ (a : Int) (b : Int) = 0 := by
    unfold pairErr
    rw [hbt]
    have h1 : freeB ⟨ones, []⟩ (a : Int) (b : Int) = true := by
      unfold freeB
      simp [ones_len, mergedB]
      omega
    rw [h1, hf]
    simp [ones_len]
  have hA : pairAdd ⟨ones, []⟩ (a : Int) (b : Int) = ⟨ones ++ [[UInt8.ofNat a, UInt8.ofNat b]], [⟨(a : Int), (b : Int), 256⟩]⟩ := by
    unfold pairAdd
    rw [hbt]
    simp only [hf, ones_len]
    rfl
  have hB : buildAll [((a : Int), (b : Int))] = (pairAdd ⟨ones, []⟩ (a : Int) (b : Int), 0) := by
    simp only [buildAll, buildV]
    rw [if_neg (by rw [he]; simp)]
  obtain ⟨P, hP⟩ : ∃ P, P = pairAdd ⟨ones, []⟩ (a : Int) (b : Int) := ⟨_, rfl⟩
  obtain ⟨l, hl⟩ : ∃ l, l = [((a : Int), (b : Int))] := ⟨_, rfl⟩
  have hm : min l.length 599 = 0 + 1 := by rw [hl]; rfl
  have ht : l.take (0 + 1) = l := by rw [hl]; rfl
  rw [← hP, ← hl] at hB
  have hN : ofV l = P := by
    unfold ofV
    rw [hm, ofN, ht, hB, if_pos rfl]
  rw [← hl, hN, hP, hA]
end Go.Proofs.Ytimbimnbaoaboaa
