package noise_test

import (
	"bytes"
	"encoding/hex"
	"math"
	"slices"
	"testing"

	"churn/api"
	"churn/block"
	"churn/cell"
	"churn/onion"
)

// knownCells: what another program's AES in counter mode told of a key: the bytes of one cell's number, for so many hops left.
var knownCells = []struct {
	key     []byte
	left, i int
	bytes   string
}{
	{counting(18)[2:], 0, 0, "902d0d2dae36b0c85b024376fa62fd4d70f8182f621d3bb4d741b0d7787ea61cdabb2561d11c3d627f44b99fcdd022fc"},
	{counting(18)[2:], 0, 1, "a035fcc177432a87fc08760083eaf989293968503c066103d29c88f7557b29343b338cfbd6be2f218ef54a2f4ab57952"},
	{counting(18)[2:], 0, 15, "190e6d17f630cf335174b6483d512d9a54ce51a16c226d31b945b2f5d2530abf887b7ca11e26acccb5cfb8809aa7be21"},
	{counting(18)[2:], 1, 0, "902d0d2dae36b0c85b024376fa62fd4d70f8182f621d3bb4d741b0d7787ea61cdabb2561d11c3d627f44b99fcdd022fca035fcc177432a87fc08760083eaf989293968503c066103d29c88f7557b29343b33"},
	{counting(18)[2:], 1, 2, "1c6fcfd91d3da886dcedfe4726cfa1d342d5def8aae8d993dd39b512928fd2ad66ddfc7c62df41b81e3406ebf1d1e3abef8424d2e0d22b5afe3698fcaac74f35900da655d62f850f431e30abe47e34cad3c8"},
	{counting(18)[2:], 7, 15, "4be6d624d0baa5763ea95bfa28c51ec83dcd1d37878c42f413afbb9904518008d94c2e7e3adde7e83d0a9c6514f66f99b609c31515b32f8b5054d1c4e4c069103367d346d60d49d704c1d484b7ff0529a0cdc90db5eab15d447947582738da27fa1cc6e73e1043fd334519b9fcd16fcb3f0c4204ad3fa890cf5ae9069a6ae66ee1b64b19345a242ce2ba6ed3962acd1af025e2a44b253a736b0c4ebbd8ecff514fe0ea792d1bf05e91d66a08483cd2a6b1b65d08e6e791a5ccf4a9984ce8741f88cb8d3a4f397afbde1738f537d8984725919dc7678b62b16a7bc9d5c8a7f740b2455ff096c0a34c82832c1a3de11eb762eadf2db225a75a50ab2ab9cebcbb8997b0808602c5f0d2b2e25a62d4c3ecf1949da6db0bba7cf7d2e291354b73"},
	{make([]byte, 16), 0, 0, "66e94bd4ef8a2c3b884cfa59ca342b2e58e2fccefa7e3061367f1d57a4e7455a0388dace60b6a392f328c2b971b2fe78"},
	{make([]byte, 16), 1, 1, "a219118e297d7b7ebcbcc9c388f28ade7d85a8ee35616f7124a9d527029195b84d1b96c690ff2f2de30bf2ec89e00253786e126504f0dab90c48a30321de3345e6b0461e7c9e6c6b7afedde83f40deb3fa67"},
	{make([]byte, 16), 3, 4, "b5b327d3f69458c492a4eb351e714043024b92cdb689c98b816e48a41794a4d39cfa6b47a534062518a0b984ed6d967fa745d16178a99e38039118c4a4f23c1f2051c61e10bf2ef48521d7d0d274ca04bc54e07f49d72f20b5fa07273f64c2f8c432e3bfbce09ee49a70926a0de2bc1e4cac166e5fe78727b79e860f7e45af5f5dee31a55a2041a718928b7e22590b8f9fedb1176a02"},
	{bytes.Repeat([]byte{255}, 16), 0, 3, "975edda991b781b401fcccc938c0d3cfa8aac5887ba4b8ea0f0a0c01a9012d14176ffba8788d610ab155a18f2f0e302a"},
	{bytes.Repeat([]byte{255}, 16), 2, 15, "475958783e1634de2d1cf202bfa43ba27c1d28473619e643509ce0048f7cc8de9f6f2a185230fbc4f5f4e0e06eb5127429acc5992ff04738d90aa63873bed5f34f44d33f40deaac485d49f9d82eeee2922b95e9aa02361e427ac02e9a891487c6c05aaf08d2616ba12880b6ca22c211f31527e19"},
}

// P15.2: what another program told: the bytes stand first in the cell, behind a nought if it is the last output's, and noughts behind them.
func TestKnownCells(t *testing.T) {
	for _, k := range knownCells {
		p, err := hex.DecodeString(k.bytes)
		if err != nil {
			t.Fatal(err)
		}
		want := make([]byte, 320)
		if k.left == 0 {
			copy(want[1:], p)
		} else {
			copy(want, p)
		}
		got := cells(telling(0, k.key), 16, k.left)
		if got.Err != api.OK || len(got.Cells) != 16 || !bytes.Equal(got.Cells[k.i], want) {
			t.Errorf("cell %d of Cells(00 00 %x, 16, %d): %v; want %x", k.i, k.key, k.left, got, want)
		}
	}
}

// P15.2: every number of cells with every number of hops left, against the words over the library's AES.
func TestEveryCountAndLeft(t *testing.T) {
	for _, part := range [][]byte{make([]byte, 18), bytes.Repeat([]byte{255}, 18), counting(18), some(18, 1520), some(19, 1521), some(300, 1522)} {
		for n := range 17 {
			for left := range 8 {
				if got := checkCells(t, part, n, left); len(got.Cells) != n || got.Err != api.OK {
					t.Errorf("Cells(%.40x, %d, %d) = %v", part, n, left, got)
				}
			}
		}
	}
}

// byLayers: the chapter's words over the layers below.
func byLayers(t *testing.T, part []byte, count, left int) [][]byte {
	t.Helper()
	size, form := api.MaxPayload, cell.Noise
	if left >= 1 {
		size, form = onion.Size(left), cell.Pad
	}
	s := block.Stream([16]byte(part[2:18]), [16]byte{}, count*size)
	var out [][]byte
	for i := range count {
		c, e := form(s[i*size : (i+1)*size])
		if e != api.OK {
			t.Fatalf("%d bytes make no cell: error %d", size, e)
		}
		out = append(out, c)
	}
	return out
}

// P15.2: the cells are those of block.Stream, onion.Size, cell.Pad and cell.Noise.
func TestCellsByTheLayers(t *testing.T) {
	for seed := range int64(5) {
		part := some(18+int(seed), 1530+seed)
		for n := range 17 {
			for left := range 8 {
				if got, want := cells(part, n, left), (made{Cells: byLayers(t, part, n, left)}); !got.same(want) {
					t.Errorf("Cells(%x, %d, %d) = %v; want %v", part, n, left, got, want)
				}
			}
		}
	}
}

// P15.2: each cell has CellSize bytes; what the words leave free is noughts, and no two cells of one call are alike.
func TestFormOfCells(t *testing.T) {
	for left := range 8 {
		got := cells(some(18, 1540), 16, left)
		from, to := 0, sizes[left]
		if left == 0 {
			from, to = 1, 49
		}
		seen := map[string]int{}
		for i, c := range got.Cells {
			if len(c) != 320 {
				t.Fatalf("left %d: cell %d has %d bytes", left, i, len(c))
			}
			if len(bytes.Trim(c[:from], "\x00"))+len(bytes.Trim(c[to:], "\x00")) != 0 {
				t.Errorf("left %d: cell %d is %x", left, i, c)
			}
			seen[string(c)]++
		}
		if len(seen) != 16 {
			t.Errorf("left %d: only %d cells are not the same", left, len(seen))
		}
	}
}

// P15.2: a noise cell looks like an onion at the next hop, and does not peel there; behind the last hop it opens as noise.
func TestCellsAtTheNextHop(t *testing.T) {
	for left := range 8 {
		for i, c := range cells(some(18, 1541), 16, left).Cells {
			if left > 0 {
				if p, e := onion.Peel(some(32, 1542), left, c); e != api.ErrTag || len(p.Cell) != 0 {
					t.Errorf("left %d: cell %d peels: %v, error %d", left, i, p, e)
				}
				continue
			}
			if p, is, e := cell.Open(c); len(p) != 0 || is || e != api.OK {
				t.Errorf("cell %d of the last output opens: %x, %v, error %d", i, p, is, e)
			}
		}
	}
}

// P15.2: the first cells don't hang on how many are asked for.
func TestFirstCellsStay(t *testing.T) {
	for seed := range int64(3) {
		part := some(18, 1543+seed)
		for left := range 8 {
			most := cells(part, 16, left).Cells
			for n := range 17 {
				if got := cells(part, n, left); !got.same(made{Cells: most[:n]}) {
					t.Errorf("Cells(%x, %d, %d) = %v; want the first of %d", part, n, left, got, len(most))
				}
			}
		}
	}
}

// P15.2: the cells hang on the sixteen bytes behind the first two alone, and on each bit of them.
func TestCellsHangOnTheKey(t *testing.T) {
	part := some(40, 1550)
	for _, left := range []int{0, 1, 7} {
		want := cells(part, 16, left)
		for at := range part {
			for bit := range 8 {
				other := slices.Clone(part)
				other[at] ^= 1 << bit
				got := cells(other, 16, left)
				if at < 2 || at >= 18 {
					if !got.same(want) {
						t.Errorf("left %d: bit %d of byte %d shows in the cells", left, bit, at)
					}
					continue
				}
				for i, c := range got.Cells {
					if bytes.Equal(c, want.Cells[i]) {
						t.Errorf("left %d: bit %d of byte %d does not show in cell %d", left, bit, at, i)
					}
				}
			}
		}
	}
}

// P15.2: what stands behind the part's 18 bytes isn't looked at, however much it is.
func TestLongerParts(t *testing.T) {
	first := some(18, 1551)
	for _, left := range []int{0, 1, 4, 7} {
		want := cells(first, 16, left)
		for _, n := range []int{1, 2, 15, 16, 17, 64, 1000, 65536, 1 << 20} {
			for _, behind := range [][]byte{make([]byte, n), some(n, 1552)} {
				if got := cells(join(first, behind), 16, left); !got.same(want) {
					t.Errorf("left %d: %d bytes behind the part show in the cells", left, n)
				}
			}
		}
	}
}

// P15.2: parts that are too short, whatever the count and the hops left; room behind a short one makes it no longer.
func TestPartsOfCells(t *testing.T) {
	for n := range 18 {
		for _, part := range [][]byte{make([]byte, n), some(n, 1553), some(100, 1554)[:n], some(100, 1555)[50 : 50+n]} {
			for _, count := range []int{0, 1, 2, 15, 16} {
				for left := range 8 {
					if got := cells(part, count, left); !got.same(made{Err: api.ErrTape}) {
						t.Errorf("Cells of %d bytes, %d, %d = %v", n, count, left, got)
					}
				}
			}
		}
	}
	for _, empty := range [][]byte{nil, {}} {
		if got := cells(empty, 0, 0); !got.same(made{Err: api.ErrTape}) {
			t.Errorf("Cells of no bytes = %v", got)
		}
	}
}

// P15.2: counts and hops left outside their ranges, near and far, whatever the other and the part are: so ahead of a part that is too short.
func TestArgumentsOfCells(t *testing.T) {
	want := made{Err: api.ErrArg}
	for _, part := range [][]byte{nil, some(17, 1556), some(18, 1557), some(60, 1558)} {
		for _, bad := range join([]int{17, 18, 255, 256}, far) {
			for _, left := range join([]int{0, 1, 6, 7, 8, 9}, far) {
				if got := cells(part, bad, left); !got.same(want) {
					t.Errorf("Cells of %d bytes, %d, %d = %v; want %v", len(part), bad, left, got, want)
				}
			}
		}
		for _, bad := range join([]int{8, 9, 16, 255, 256}, far) {
			for _, n := range join([]int{0, 1, 15, 16, 17}, far) {
				if got := cells(part, n, bad); !got.same(want) {
					t.Errorf("Cells of %d bytes, %d, %d = %v; want %v", len(part), n, bad, got, want)
				}
			}
		}
	}
}

// P15.2: the ends of the ranges, and one past each.
func TestEdgesOfCells(t *testing.T) {
	for _, c := range []struct {
		bytes, count, left int
		want               api.Errno
	}{
		{18, -1, 3, api.ErrArg}, {18, 0, 3, api.OK}, {18, 1, 3, api.OK}, {18, 16, 3, api.OK}, {18, 17, 3, api.ErrArg},
		{18, 2, -1, api.ErrArg}, {18, 2, 0, api.OK}, {18, 2, 1, api.OK}, {18, 2, 7, api.OK}, {18, 2, 8, api.ErrArg},
		{17, 2, 3, api.ErrTape}, {18, 2, 3, api.OK}, {19, 2, 3, api.OK}, {0, 0, 0, api.ErrTape},
		{17, -1, 3, api.ErrArg}, {17, 17, 3, api.ErrArg}, {17, 2, -1, api.ErrArg}, {17, 2, 8, api.ErrArg}, {0, 17, 8, api.ErrArg},
		{18, math.MaxInt, 3, api.ErrArg}, {18, math.MinInt, 3, api.ErrArg}, {18, 2, math.MaxInt, api.ErrArg}, {18, 2, math.MinInt, api.ErrArg},
		{18, math.MinInt, math.MaxInt, api.ErrArg}, {18, math.MaxInt, math.MaxInt, api.ErrArg},
	} {
		got := checkCells(t, some(c.bytes, 1559), c.count, c.left)
		if got.Err != c.want {
			t.Errorf("Cells of %d bytes, %d, %d = %v; want error %d", c.bytes, c.count, c.left, got, c.want)
		}
		if c.want != api.OK && len(got.Cells) != 0 {
			t.Errorf("Cells of %d bytes, %d, %d: a list of cells beside error %d", c.bytes, c.count, c.left, got.Err)
		}
	}
}
