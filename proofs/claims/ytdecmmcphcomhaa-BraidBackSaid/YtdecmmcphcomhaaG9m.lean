import Derived.Test.YtdecmmcphcomhaaG9d
import Derived.Test.YtdecmmcphcomhaaY2
import Derived.Test.YtdecmmcphcomhaaX2
namespace Go.Proofs.Ytdecmmcphcomhaa.Drw
open Go.ChangeShapes Go.WideShapes Go.ChangeAt Go.RowKit Gf8 Aes By8 Cel Cf Tap
/- A []int as an argument. -/

theorem bytesI : Try.prog.bytesOf 3 = 8 := by kernel_rfl
end Go.Proofs.Ytdecmmcphcomhaa.Drw
