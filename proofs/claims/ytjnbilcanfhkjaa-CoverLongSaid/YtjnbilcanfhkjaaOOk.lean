/- The landed cover keeps what the laws of cover ask of it. -/
import Derived.Test.YtjnbilcanfhkjaaOOfs
namespace Go.Proofs.Ytjnbilcanfhkjaa

theorem coverOk : CoverOk CovAt where
  below := fun h hb => h.below hb
  new_none := fun w A n ca L hA hn hL => pnew_none w A n ca L hA hn hL
  new := fun w A n ca L hA hL => pnew_any w A n ca L hA hL
  of_ := fun hC hr B m cb s hs hmc hm3 => pof_any hC hr B m cb s hs hmc hm3
  sure := fun hC _ B m cb s hs _ _ t i _ _ => psure_any hC B m cb s hs t i
  chances := fun hC hr B C m p cb cp s l hs hl hmc hm3 hp => pchances_any hC hr B C m p cb cp s l hs hl hmc hm3 hp
end Go.Proofs.Ytjnbilcanfhkjaa
