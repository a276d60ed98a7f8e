/- The reference's arrivals of a right way. Conditions: the net is right; the way is one of at most a thousand roads; the time is small. -/
import Derived.Test.YtjmaankkbdpikaaX7
import Derived.Test.YtjmaankkbdpikaaT43
import Derived.Test.YtjmaankkbdpikaaT52
namespace Go.Proofs.Ytjmaankkbdpikaa
open Go.RowKit Fs

end Go.Proofs.Ytjmaankkbdpikaa
