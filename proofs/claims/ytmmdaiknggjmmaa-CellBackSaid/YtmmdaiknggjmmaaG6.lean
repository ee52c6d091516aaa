import Derived.Test.YtmmdaiknggjmmaaC6
import Derived.Test.YtmmdaiknggjmmaaO8
namespace Go.Proofs.Ytmmdaiknggjmmaa

theorem cBack_all : Rows.CellBackSaid := cBack_proved Cel.impl
#print axioms cBack_all
end Go.Proofs.Ytmmdaiknggjmmaa
