import Derived.Test.YtmlealepeoefpaaG9f
namespace Go.Proofs.Ytmlealepeoefpaa.Drw
open Go.RowKit Gf8 Aes By8 Cel Cf Tap
/- The law's same. Written by tools/mkG9g.py. -/

end Go.Proofs.Ytmlealepeoefpaa.Drw
