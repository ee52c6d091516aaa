import Derived.Test.YtmmdaiknggjmmaaC6
import Derived.Test.YtmmdaiknggjmmaaO7
namespace Go.Proofs.Ytmmdaiknggjmmaa

theorem cReads_all : Rows.CellReadsSaid := cReads_proved Cel.impl
#print axioms cReads_all
end Go.Proofs.Ytmmdaiknggjmmaa
