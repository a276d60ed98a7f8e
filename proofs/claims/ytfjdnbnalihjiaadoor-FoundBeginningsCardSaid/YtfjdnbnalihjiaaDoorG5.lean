/- Events: the reference's done, right, eventErr. Conditions: the days of earlier events are dates. -/
import Derived.Test.YtfjdnbnalihjiaaDoorG4
namespace Go.Proofs.YtfjdnbnalihjiaaDoor
open Go.RowKit Fs

end Go.Proofs.YtfjdnbnalihjiaaDoor
