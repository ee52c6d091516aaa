import Derived.Test.YtmmdaiknggjmmaaC6
import Derived.Test.YtmmdaiknggjmmaaO6
namespace Go.Proofs.Ytmmdaiknggjmmaa

theorem cMakes_all : Rows.CellMakesSaid := cMakes_proved Cel.impl
#print axioms cMakes_all
end Go.Proofs.Ytmmdaiknggjmmaa
