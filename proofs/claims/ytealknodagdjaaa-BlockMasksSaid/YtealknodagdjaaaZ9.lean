import Derived.Test.YtealknodagdjaaaZ2
import Derived.Test.YtealknodagdjaaaZ8
namespace Go.Proofs.Ytealknodagdjaaa

theorem bMasks_all : Rows.BlockMasksSaid := bMasks_proved Aes.impl
#print axioms bMasks_all
end Go.Proofs.Ytealknodagdjaaa
