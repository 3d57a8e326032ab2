/- The landed mem keeps its contracts. -/
import Derived.Test.YtmnofmcfkchebaaMpTerms
import Derived.Test.YtmnofmcfkchebaaMpAdd
import Derived.Test.YtmnofmcfkchebaaMpPosts
namespace Go.Proofs.Ytmnofmcfkchebaa
open Go.RowKit Go.Maps Go.WideMaps

theorem memOk : MemOk M0 where
  keep := fun h hk hs => h.keep hk hs
  lt := fun h i hi => h.2.1 i hi
  new := m0New_any
  many := fun h _ => m0Many_any h
  add := fun h hW hT x A C n m c cc hTI hSI _ _ hAF hCF hd => m0Add_any h hW hT x A C n m c cc hTI hSI hAF hCF hd
  terms := fun h hW hT => m0Terms_any h hW hT
  posts := fun h hW hT t ht => m0Posts_any h hW hT t ht
end Go.Proofs.Ytmnofmcfkchebaa
