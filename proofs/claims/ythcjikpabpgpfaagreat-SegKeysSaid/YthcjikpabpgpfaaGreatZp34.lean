import Derived.Test.YthcjikpabpgpfaaGreatZp0
import Derived.Test.YthcjikpabpgpfaaGreatZp28
set_option linter.unusedSimpArgs false
set_option maxHeartbeats 16000000
set_option maxRecDepth 100000
namespace Go.Proofs.YthcjikpabpgpfaaGreat
open Go.RowKit Go.Maps Go.WideMaps
def SegOut (w:World) (V:Voc) (l:List (Nm×Nm)) (e:Ending) (w':World):Prop:=
 if docsR l then TxtOut w (segB V l) 0 e w' else e=.returned (.tuple #[.slice none 0 0,.int .i64 1])∧Below w.heap.size w w'
end Go.Proofs.YthcjikpabpgpfaaGreat
