import Derived.Test.YtealknodagdjaaaZ2
import Derived.Test.YtealknodagdjaaaT9
namespace Go.Proofs.Ytealknodagdjaaa

theorem bExamples_all : Rows.BlockExamplesSaid := bExamples_proved Aes.impl
#print axioms bExamples_all
end Go.Proofs.Ytealknodagdjaaa
