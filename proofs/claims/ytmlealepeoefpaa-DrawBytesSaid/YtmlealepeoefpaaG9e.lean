import Derived.Test.YtmlealepeoefpaaG9d
import Derived.Test.YtmlealepeoefpaaV9o
namespace Go.Proofs.Ytmlealepeoefpaa.Drw
open Go.RowKit Gf8 Aes By8 Cel Cf Tap
/- The reference's wrong and Below. Written by tools/mkG9e.py. -/

end Go.Proofs.Ytmlealepeoefpaa.Drw
