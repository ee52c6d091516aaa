import Derived.Test.YtmmdaiknggjmmaaC6
import Derived.Test.YtmmdaiknggjmmaaO9
namespace Go.Proofs.Ytmmdaiknggjmmaa

theorem cOnly_all : Rows.CellOnlySaid := cOnly_proved Cel.impl
#print axioms cOnly_all
end Go.Proofs.Ytmmdaiknggjmmaa
