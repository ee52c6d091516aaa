import Derived.Test.YtcibogmghagpoaaV8y
import Derived.Test.YtcibogmghagpoaaV8f
namespace Go.Proofs.Ytcibogmghagpoaa.Dro
open Go.RowKit Gf8 Aes By8 Cel Cf Tap Drw
/- The landed package keeps what the laws ask. -/

theorem impl : Impl where
  request := fun nm f m v V hn hv hz _ => prequest nm f m v V hn hv hz
  answer := fun f m v V hv _ _ => panswer f m v V hv
  exchange := fun n cv xv ln c V hL hn _ => pexchange n cv xv ln c V hL (by omega)
end Go.Proofs.Ytcibogmghagpoaa.Dro
