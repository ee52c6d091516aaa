import Derived.Test.YtmmdaiknggjmmaaC6
import Derived.Test.YtmmdaiknggjmmaaC4
namespace Go.Proofs.Ytmmdaiknggjmmaa

theorem cKeeps_all : Rows.CellKeepsSaid := cKeeps_proved Cel.impl
#print axioms cKeeps_all
end Go.Proofs.Ytmmdaiknggjmmaa
