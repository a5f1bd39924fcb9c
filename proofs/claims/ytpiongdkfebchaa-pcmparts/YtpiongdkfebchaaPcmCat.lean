/- The library's Clone, Grow and Concat, at slices of integers. -/
import Derived.Test.YtpiongdkfebchaaPcmMake
import Derived.Test.YtpiongdkfebchaaInts
namespace Go.Proofs.Ytpiongdkfebchaa
open Go.RowKit Bx

end Go.Proofs.Ytpiongdkfebchaa
