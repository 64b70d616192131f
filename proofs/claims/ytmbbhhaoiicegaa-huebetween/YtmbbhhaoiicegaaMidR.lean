/- Contract of mutoscoperef1.Mid: for all numbers; nothing in memory turns. -/
import Derived.Test.YtmbbhhaoiicegaaJ
namespace Go.Proofs.Ytmbbhhaoiicegaa
open Go.RowKit
open M


end Go.Proofs.Ytmbbhhaoiicegaa
