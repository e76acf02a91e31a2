/-
  THE PROGRAM'S CACHE keeps all contracts.
-/
import Derived.Test.YthcphabfeapjbaaPYB
namespace Go.Proofs.Ythcphabfeapjbaa
open Go.RowKit Ca

theorem cacheAll : CacheC Lies where
  lt := fun ⟨_, _, _, _, _, _, hF, h⟩ k hk => h.lt k ((hF k).1 hk)
  mono := fun ⟨ro, a, ca, ps, rs, vs, hF, h⟩ hq => ⟨ro, a, ca, ps, rs, vs, hF, h.mono hq⟩
  stay := fun ⟨ro, a, ca, ps, rs, vs, hF, h⟩ hc hX => ⟨ro, a, ca, ps, rs, vs, hF, h.stay hc fun k o hk => hX k o ((hF k).2 hk)⟩
  newBad := fun a b w ha hb h => CNew_bad a b w ha hb h
  newOk := fun sh room w hs hr => CNew_ok sh room w hs hr
  put := fun h _ i v bs hi hl hA => CPut_any h i v bs hi hl hA
  get := fun h hq i _ => CGet_any h hq i
  pin := fun h hq i _ => CPin_any h hq i
  unpin := fun h hq i _ => CUnpin_any h hq i
  drop := fun h hq i _ => CDrop_any h hq i
  has := fun h => CHas_any h
  rate := fun h hh hg => CRate_any h hh hg
  rateNil := fun w => CRate_nil w
end Go.Proofs.Ythcphabfeapjbaa
