import Derived.Test.YtealknodagdjaaaZ2
import Derived.Test.YtealknodagdjaaaT7
namespace Go.Proofs.Ytealknodagdjaaa

theorem bBack_all : Rows.BlockBackSaid := bBack_proved Aes.impl
#print axioms bBack_all
end Go.Proofs.Ytealknodagdjaaa
