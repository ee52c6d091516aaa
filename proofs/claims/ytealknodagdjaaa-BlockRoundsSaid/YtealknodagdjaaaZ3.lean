import Derived.Test.YtealknodagdjaaaZ2
import Derived.Test.YtealknodagdjaaaT6
namespace Go.Proofs.Ytealknodagdjaaa

theorem bRounds_all : Rows.BlockRoundsSaid := bRounds_proved Aes.impl
#print axioms bRounds_all
end Go.Proofs.Ytealknodagdjaaa
