package frame_test

import (
	"bytes"
	"fmt"
	"math/rand"
	"runtime"
	"slices"
	"sync"
	"testing"
	"weak"

	"churn/api"
	"churn/frame"
)

// checkPieces: one Put of the whole, and the same bytes in pieces: the same cells, the same last error, the same Header and End; and with each piece what the words say.
func checkPieces(t *testing.T, what string, list [][]byte) {
	t.Helper()
	raw := bytes.Join(list, nil)
	one, many := frame.New(), frame.New()
	want, wantErr := one.Put(raw)
	var got [][]byte
	e := api.OK
	for _, p := range list {
		var more [][]byte
		more, e = many.Put(p)
		got = append(got, more...)
	}
	if !sameCells(got, want) || e != wantErr {
		t.Fatalf("%s: %d cells, error %d; in one piece %d cells, error %d", what, len(got), e, len(want), wantErr)
	}
	h1, ok1 := one.Header()
	h2, ok2 := many.Header()
	at1, e1 := one.End()
	at2, e2 := many.End()
	if h1 != h2 || ok1 != ok2 || at1 != at2 || e1 != e2 {
		t.Fatalf("%s: Header %v, %v and End %d, %d; in one piece %v, %v and %d, %d", what, h2, ok2, at2, e2, h1, ok1, at1, e1)
	}
	if all := fed(t, what, list...); !sameCells(all, want) {
		t.Fatalf("%s: asked between the pieces, it answers other cells", what)
	}
}

// P6.2: a new Feed has taken nothing in, and is never nil.
func TestNew(t *testing.T) {
	f := frame.New()
	if f == nil {
		t.Fatal("New answers nil")
	}
	checkFeed(t, "a new Feed", f, judged(nil))
	if at, e := f.End(); at != 0 || e != api.ErrShort {
		t.Errorf("End of a new Feed: %d at %d", e, at)
	}
	for _, p := range [][]byte{nil, {}, make([]byte, 0, 9)} {
		if list, e := f.Put(p); len(list) != 0 || e != api.OK {
			t.Errorf("an empty piece: %d cells, error %d", len(list), e)
		}
		checkFeed(t, "a Feed with an empty piece", f, judged(nil))
	}
}

// P6.2: a nil *Feed takes nothing in, however often it is asked.
func TestNilFeed(t *testing.T) {
	var f *frame.Feed
	for _, p := range [][]byte{nil, {}, example(), bytesOf(batch(7, 1, 2, cells(2))), {0, 0, 0, 0}} {
		if list, e := f.Put(p); len(list) != 0 || e != api.ErrArg {
			t.Errorf("Put of %d bytes: %d cells, error %d", len(p), len(list), e)
		}
		if h, ok := f.Header(); h != (api.Header{}) || ok {
			t.Errorf("Header: %v, %v", h, ok)
		}
		if at, e := f.End(); at != 0 || e != api.ErrArg {
			t.Errorf("End: %d at %d", e, at)
		}
	}
}

// P6.2: what each of the chapter's examples is to a Feed, whole and byte by byte.
func TestFeedOfExamples(t *testing.T) {
	raw := example()
	header := api.Header{Round: 7, Epoch: 1, Left: 2}
	for _, c := range []struct {
		what   string
		raw    []byte
		put    api.Errno
		header api.Header
		known  bool
		at     int
		end    api.Errno
	}{
		{"the 28 bytes", raw, api.OK, header, true, 0, api.OK},
		{"without their last byte", raw[:27], api.OK, header, true, 27, api.ErrShort},
		{"with a byte behind them", append(example(), 0), api.ErrMore, header, true, 28, api.ErrMore},
		{"byte 5 turned to 9", with(raw, 5, 9), api.ErrHeader, api.Header{}, false, 5, api.ErrHeader},
		{"byte 5 turned to 3", with(raw, 5, 3), api.ErrFoot, api.Header{Round: 7, Epoch: 1, Left: 3}, true, 24, api.ErrFoot},
		{"byte 7 turned to 1", with(raw, 7, 1), api.ErrCell, header, true, 24, api.ErrCell},
		{"the one byte 00", []byte{0}, api.OK, api.Header{}, false, 1, api.ErrShort},
		{"43 48 52 00", []byte{0x43, 0x48, 0x52, 0}, api.ErrMagic, api.Header{}, false, 0, api.ErrMagic},
		{"23 bytes", raw[:23], api.OK, api.Header{}, false, 23, api.ErrShort},
		{"24 bytes", raw[:24], api.OK, header, true, 24, api.ErrShort},
		{"24 bytes, a wrong Epoch", with(raw, 16, 0x80)[:24], api.ErrHeader, api.Header{}, false, 16, api.ErrHeader},
	} {
		f := frame.New()
		list, e := f.Put(c.raw)
		if len(list) != 0 || e != c.put {
			t.Errorf("%s: %d cells, error %d", c.what, len(list), e)
		}
		checkFeed(t, c.what, f, verdict{Header: c.header, Known: c.known, At: c.at, Err: c.end})
		checkPieces(t, c.what, slices.Collect(slices.Chunk(c.raw, 1)))
	}
}

// P6.2, P6.3: each sample whole, byte by byte, and in pieces of some lengths, everything asked between the pieces.
func TestPiecesOfOneLength(t *testing.T) {
	for _, s := range samples() {
		checkPieces(t, s.Name+", whole", [][]byte{s.Raw})
		for _, n := range []int{1, 2, 3, 7, 8, 23, 24, 25, 319, 320, 321, 322, 323} {
			checkPieces(t, fmt.Sprintf("%s, by %d", s.Name, n), slices.Collect(slices.Chunk(s.Raw, n)))
		}
	}
}

// P6.2, P6.3: each sample cut at each place, empty pieces ahead of the cut, at it and behind it.
func TestCutAtEachPlace(t *testing.T) {
	for _, s := range samples() {
		for at := range len(s.Raw) + 1 {
			checkPieces(t, fmt.Sprintf("%s, cut at %d", s.Name, at), pieces(s.Raw, at))
			checkPieces(t, fmt.Sprintf("%s, cut at %d, empty pieces", s.Name, at), [][]byte{nil, s.Raw[:at], {}, nil, s.Raw[at:], {}, nil})
		}
	}
}

// P6.3: small bytes cut at each two places.
func TestCutAtEachTwoPlaces(t *testing.T) {
	for _, s := range samples() {
		raw := s.Raw[:min(len(s.Raw), 30)]
		for b := range len(raw) + 1 {
			for a := range b + 1 {
				checkPieces(t, fmt.Sprintf("%s, cut at %d and %d", s.Name, a, b), pieces(raw, a, b))
			}
		}
	}
}

// P6.2, P6.3: cut anywhere, with empty and nil pieces strewn in.
func TestCutAnywhere(t *testing.T) {
	r := rand.New(rand.NewSource(63))
	for _, s := range samples() {
		for _, most := range []int{2, 10, 100, 400, 1000} {
			for range 10 {
				checkPieces(t, fmt.Sprintf("%s, cut anywhere up to %d", s.Name, most), strewn(r, s.Raw, most))
			}
		}
	}
}

// P6.2, P6.3: a full batch, and one with a fault in its last cell's length or its foot.
func TestFeedOfFullBatch(t *testing.T) {
	list := cells(256)
	raw := bytesOf(batch(1<<62-1, 1<<62, 8, list))
	f := frame.New()
	got, e := f.Put(raw)
	if !sameCells(got, list) || e != api.OK {
		t.Errorf("%d cells, error %d", len(got), e)
	}
	for what, p := range map[string][]byte{
		"whole":             raw,
		"a wrong length":    with(raw, 24+255*322, 3),
		"a wrong foot":      with(raw, len(raw)-1, ^raw[len(raw)-1]),
		"a byte behind":     append(bytes.Clone(raw), 0),
		"257 told, 257 are": bytesOf(batch(7, 1, 2, slices.Repeat(list[:1], 257))),
	} {
		for _, n := range []int{1000, 4096, len(p)} {
			checkPieces(t, what, slices.Collect(slices.Chunk(p, n)))
		}
	}
	f = frame.New()
	count := 0
	for i, x := range raw {
		got, e := f.Put([]byte{x})
		if whole := i >= 24 && (i-24)%322 == 321 && i < len(raw)-4; len(got) != 0 != whole || e != api.OK {
			t.Fatalf("byte %d: %d cells, error %d", i, len(got), e)
		}
		for _, c := range got {
			if !bytes.Equal(c, list[count]) {
				t.Fatalf("cell %d is another one", count)
			}
			count++
		}
	}
	if at, e := f.End(); count != 256 || at != 0 || e != api.OK {
		t.Errorf("%d cells, End tells %d at %d", count, e, at)
	}
}

// P6.2: cells ahead of a fault in the same piece stand beside its error; pieces behind the fault answer no cells and the same error, and change nothing.
func TestBehindAFault(t *testing.T) {
	whole := bytesOf(batch(7, 1, 2, cells(3)))
	for _, c := range []struct {
		what  string
		raw   []byte
		cells int
		at    int
		err   api.Errno
		known bool
	}{
		{"letters", with(whole, 0, 0), 0, 0, api.ErrMagic, false},
		{"version", with(whole, 4, 0), 0, 4, api.ErrVersion, false},
		{"Left", with(whole, 5, 9), 0, 5, api.ErrHeader, false},
		{"count", with(whole, 6, 2), 0, 6, api.ErrCount, false},
		{"Round", with(whole, 8, 64), 0, 8, api.ErrHeader, false},
		{"Epoch", with(whole, 16, 65), 0, 16, api.ErrHeader, false},
		{"the first length", with(whole, 24, 0), 0, 24, api.ErrCell, true},
		{"the second length", with(whole, 346, 0), 1, 346, api.ErrCell, true},
		{"the third length", with(whole, 668, 0), 2, 668, api.ErrCell, true},
		{"the foot", with(whole, 990, ^whole[990]), 3, 990, api.ErrFoot, true},
		{"more", append(bytes.Clone(whole), 1), 3, 994, api.ErrMore, true},
	} {
		f := frame.New()
		got, e := f.Put(c.raw)
		if !sameCells(got, cells(3)[:c.cells]) || e != c.err {
			t.Errorf("%s: %d cells, error %d", c.what, len(got), e)
		}
		v := verdict{Known: c.known, At: c.at, Err: c.err}
		if c.known {
			v.Header = api.Header{Round: 7, Epoch: 1, Left: 2}
		}
		checkFeed(t, c.what, f, v)
		for _, p := range [][]byte{nil, {}, {0}, whole, whole[24:346], example(), c.raw, bytes.Repeat([]byte{1, 64}, 1000)} {
			if got, e := f.Put(p); len(got) != 0 || e != c.err {
				t.Errorf("%s, a piece behind it: %d cells, error %d", c.what, len(got), e)
			}
			checkFeed(t, c.what+", a piece behind it", f, v)
		}
	}
}

// P6.2: a whole batch and empty pieces behind it is still one; End may be asked at each place and stops nothing.
func TestBehindAWholeBatch(t *testing.T) {
	f := frame.New()
	f.Put(bytesOf(batch(7, 1, 2, cells(1))))
	whole := verdict{Header: api.Header{Round: 7, Epoch: 1, Left: 2}, Known: true}
	for range 3 {
		checkFeed(t, "a whole batch", f, whole)
		if got, e := f.Put(nil); len(got) != 0 || e != api.OK {
			t.Errorf("an empty piece: %d cells, error %d", len(got), e)
		}
	}
	if got, e := f.Put(example()); len(got) != 0 || e != api.ErrMore {
		t.Errorf("another batch: %d cells, error %d", len(got), e)
	}
	checkFeed(t, "another batch behind it", f, whole.refused(28+322, api.ErrMore))
}

// P6.3 and rule 6: two Feeds that are given pieces by turns keep apart.
func TestFeedsKeepApart(t *testing.T) {
	a, b := bytesOf(batch(7, 1, 2, cells(2))), with(bytesOf(batch(8, 3, 4, cells(3)[1:])), 346, 9)
	f, g := frame.New(), frame.New()
	for i := range a {
		f.Put(a[i : i+1])
		g.Put(b[i : i+1])
		checkFeed(t, fmt.Sprint("the one, byte ", i), f, judged(a[:i+1]))
		checkFeed(t, fmt.Sprint("the other, byte ", i), g, judged(b[:i+1]))
	}
}

// P6.4: a Feed finds a turned byte too, at the same place as Read.
func TestFeedFindsATurnedByte(t *testing.T) {
	raw := bytesOf(batch(7, 1, 2, cells(2)))
	for at := range raw {
		p := with(raw, at, raw[at]^byte(at%255+1))
		f := frame.New()
		f.Put(p[:at])
		f.Put(p[at:])
		place, e := f.End()
		if _, want, wantErr := frame.Read(p); e == api.OK || e != wantErr || place != want {
			t.Errorf("byte %d: End tells %d at %d; Read %d at %d", at, e, place, wantErr, want)
		}
	}
}

// Rule 5: pieces stay as they are, spare room included, and aren't kept: written over behind each Put, they change nothing.
func TestPiecesAreNotKept(t *testing.T) {
	r := rand.New(rand.NewSource(65))
	for _, s := range samples() {
		for _, most := range []int{1, 10, 400, 2000} {
			want := judged(s.Raw)
			f := frame.New()
			var got [][]byte
			for _, p := range strewn(r, s.Raw, most) {
				inside, all := withRoom(p)
				before := bytes.Clone(all)
				list, _ := f.Put(inside)
				f.Header()
				f.End()
				if !bytes.Equal(all, before) {
					t.Fatalf("%s: a piece, or what lies about it, has changed", s.Name)
				}
				clear(all)
				got = append(got, list...)
			}
			if !sameCells(got, want.Cells) {
				t.Errorf("%s: the cells hang on the pieces", s.Name)
			}
			checkFeed(t, s.Name, f, want)
		}
	}
}

// Rule 5: cells that are answered are memory of their own: written over, room and all, they change no other cell and not the Feed.
func TestCellsAreNew(t *testing.T) {
	raw := bytesOf(batch(7, 1, 2, cells(4)))
	for _, n := range []int{1, 50, 322, 700, len(raw)} {
		f := frame.New()
		count := 0
		for p := range slices.Chunk(raw, n) {
			given := bytes.Clone(p)
			list, e := f.Put(given)
			if e != api.OK {
				t.Fatalf("by %d: error %d", n, e)
			}
			for _, c := range list {
				if !bytes.Equal(c, cells(4)[count]) {
					t.Errorf("by %d: cell %d has changed", n, count)
				}
				clear(c[:cap(c)])
				count++
			}
			clear(list[:cap(list)])
			if !bytes.Equal(given, p) {
				t.Errorf("by %d: a cell shares memory with the piece", n)
			}
		}
		if at, e := f.End(); count != 4 || at != 0 || e != api.OK {
			t.Errorf("by %d: %d cells, End tells %d at %d", n, count, e, at)
		}
	}
}

// watched: a Feed with bytes put in pieces, and weak pointers to each piece and each cell, held by nobody else.
func watched(raw []byte, n int) (*frame.Feed, []weak.Pointer[byte]) {
	f := frame.New()
	var all []weak.Pointer[byte]
	for p := range slices.Chunk(raw, n) {
		p = bytes.Clone(p)
		list, _ := f.Put(p)
		all = append(all, weak.Make(&p[0]))
		for _, c := range list {
			all = append(all, weak.Make(&c[0]))
		}
	}
	return f, all
}

// A Feed keeps no more than the bytes of what isn't whole yet: no piece and no cell stays alive by it.
func TestFeedKeepsNoMemory(t *testing.T) {
	whole := bytesOf(batch(7, 1, 2, cells(4)))
	for _, raw := range [][]byte{whole, whole[:1000], whole[:1150], with(whole, 346, 0), append(bytes.Clone(whole), whole...)} {
		for _, n := range []int{100, 322, 1000, 5000} {
			f, all := watched(raw, n)
			runtime.GC()
			runtime.GC()
			for i, p := range all {
				if p.Value() != nil {
					t.Errorf("%d bytes by %d: thing %d of %d is kept", len(raw), n, i, len(all))
				}
			}
			runtime.KeepAlive(f)
		}
	}
}

// Rule 6: many Feeds at one time, over the same pieces, each by itself.
func TestManyFeedsAtOneTime(t *testing.T) {
	var all sync.WaitGroup
	for _, s := range samples() {
		want := judged(s.Raw)
		for range 4 {
			all.Go(func() {
				f := frame.New()
				var got [][]byte
				for p := range slices.Chunk(s.Raw, 13) {
					list, _ := f.Put(p)
					got = append(got, list...)
				}
				if at, e := f.End(); at != want.At || e != want.Err || !sameCells(got, want.Cells) {
					t.Errorf("%s: %d cells, %d at %d", s.Name, len(got), e, at)
				}
			})
		}
	}
	all.Wait()
}

func ExampleFeed() {
	raw, _ := frame.Pack(api.Batch{Header: api.Header{Round: 7, Epoch: 1, Left: 2}, Cells: [][]byte{make([]byte, 320)}})
	f := frame.New()
	for _, p := range [][]byte{raw[:10], raw[10:100], raw[100:]} {
		list, e := f.Put(p)
		h, ok := f.Header()
		at, end := f.End()
		fmt.Println(len(list), int(e), h, ok, at, int(end))
	}
	// Output:
	// 0 0 {0 0 0} false 10 67
	// 0 0 {7 1 2} true 100 67
	// 1 0 {7 1 2} true 0 0
}
