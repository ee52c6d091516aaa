import Derived.Test.YtmfaapbhehhlpaaO0
namespace Go.Proofs.Ytmfaapbhehhlpaa.Cel
open Go.RowKit Gf8 Aes By8
/- The reference's functions of layer 5. -/

def lenV (v : Value) : Nat := match v with | .slice _ m _ => m | _ => 0
end Go.Proofs.Ytmfaapbhehhlpaa.Cel
