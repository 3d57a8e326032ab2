/- The landed code's post is as the laws ask. -/
import Derived.Test.YtmcoooepoikgjaaQGet
namespace Go.Proofs.Ytmcoooepoikgjaa

theorem postOk : PostOk := ⟨fun w A n c l h _ hn _ => gPut_any w A n c l h hn, fun w A n c b h hc hn => gGet_any w A n c b h hc hn⟩
end Go.Proofs.Ytmcoooepoikgjaa
