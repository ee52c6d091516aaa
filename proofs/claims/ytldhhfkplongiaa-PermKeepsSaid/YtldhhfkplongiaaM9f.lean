import Derived.Test.YtldhhfkplongiaaM9d
namespace Go.Proofs.Ytldhhfkplongiaa.Prm
open Go.RowKit Gf8 Aes By8 Cel Cf Tap Drw
/- What the landed package perm keeps. Written by tools/mkM9e.py. -/

/-- The landed package keeps the chapter's words. -/
theorem impl : Impl where
  check f n v V h1 h2 := pcheck f n v V h1 h2
  ident k V h := pident k V h
  bounds k V h := pbounds k V h
  inverse f n v V h1 h2 := pinverse f n v V h1 h2
  draws f n v V h1 h2 := pdraws f n v V h1 h2
  rank f n v V h1 h2 := prank f n v V h1 h2
  unrank d n v V h1 h2 := punrank d n v V h1 h2
  compose f g n m v u V h1 h2 h3 h4 := pcompose f g n m v u V h1 h2 h3 h4
  apply f g n m v u V h1 h2 h3 := papply f g n m v u V h1 h2 h3
  from_ k d m v V h1 h2 h3 := pfrom k d m v V h1 h2 h3
end Go.Proofs.Ytldhhfkplongiaa.Prm
