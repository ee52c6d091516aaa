import Derived.Test.YtealknodagdjaaaZ2
import Derived.Test.YtealknodagdjaaaY5
namespace Go.Proofs.Ytealknodagdjaaa

theorem bCrypts_all : Rows.BlockCryptsSaid := bCrypts_proved Aes.impl
#print axioms bCrypts_all
end Go.Proofs.Ytealknodagdjaaa
