import Derived.Test.YthcjikpabpgpfaaGreatZp0
import Derived.Test.YthcjikpabpgpfaaGreatZp27
set_option linter.unusedSimpArgs false
set_option maxHeartbeats 16000000
set_option maxRecDepth 100000
namespace Go.Proofs.YthcjikpabpgpfaaGreat
theorem build_more_err (p:Int×Int):∀ (l:List (Int×Int)) (V:Voc),(buildV V l).2≠0→buildV V (l++[p])=buildV V l
 | [],V,h=>absurd rfl h
 | q :: r,V,h=>by
  rw [List.cons_append]
  by_cases hq:pairErr V q.1 q.2≠0
  ·simp only [buildV,if_pos hq]
  ·simp only [buildV,if_neg hq] at h ⊢
   exact build_more_err p r _ h
end Go.Proofs.YthcjikpabpgpfaaGreat
