/- Contracts of mutoscopelaw5.known: it returns true; of the memory nothing that was there turns. -/
import Derived.Test.YtglbfpjjnboeaaaGreatApp
import Derived.Test.YtglbfpjjnboeaaaGreatKR5
namespace Go.Proofs.YtglbfpjjnboeaaaGreat
open Go.RowKit
open M

theorem sl_lit {w : World} {g : Nat} {ks : List Ky} {cs : Array Value} {t : TypeId} (n c : Nat) (hn : ks.length = n) (h0 : 0 < n) (hf : n ≤ 8796093022208) (h : Has w g cs t) (hc : cs.toList = kls ks) : Sl w (.slice (some ⟨g, 0, none⟩) n c) ks := by
  subst hn
  exact Or.inr ⟨h0, g, 0, c, rfl, row_has hf h hc⟩

end Go.Proofs.YtglbfpjjnboeaaaGreat
