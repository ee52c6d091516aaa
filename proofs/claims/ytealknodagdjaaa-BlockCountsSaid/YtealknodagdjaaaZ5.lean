import Derived.Test.YtealknodagdjaaaZ2
import Derived.Test.YtealknodagdjaaaT8
namespace Go.Proofs.Ytealknodagdjaaa

theorem bCounts_all : Rows.BlockCountsSaid := bCounts_proved Aes.impl
#print axioms bCounts_all
end Go.Proofs.Ytealknodagdjaaa
