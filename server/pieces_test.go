package server_test

import (
	"fmt"
	"runtime"
	"slices"
	"testing"

	"churn/api"
	"churn/server"
)

// longest: as many bytes as a batch can have.
const longest = 24 + 256*322 + 4

// checkPieces: Finish behind these pieces, held against a round over all of them at once.
func checkPieces(t *testing.T, what string, pieces [][]byte, tape []byte) api.Outcome {
	t.Helper()
	whole := must(server.Load(config(), held(3)))
	want := whole.Round(server.ByMix, slices.Concat(pieces...), tape, nil)
	p := newPair(t, config(), held(3))
	p.put(pieces...)
	o := p.finish(tape)
	if !sameOutcome(o, want) || !sameState(p.s.State(), whole.State()) {
		t.Errorf("%s: %s; want %s", what, told(o), told(want))
	}
	if o := p.finish(tape); o.Err != api.ErrShort || o.At != 0 {
		t.Errorf("%s, then nothing put: %s", what, told(o))
	}
	return o
}

// inPiecesOf: the bytes in pieces of so many.
func inPiecesOf(raw []byte, size int) [][]byte { return slices.Collect(slices.Chunk(raw, size)) }

// P24.5: a batch in one piece, cut into two at each place, and into pieces of one size.
func TestCuts(t *testing.T) {
	raw, tape := packed(header(7, 9), cells[0], cells[1], cells[0]), loud(300, 2530)
	if o := checkPieces(t, "in one piece", [][]byte{raw}, tape); o.Err != api.OK || o.Report != (api.Report{In: 3, Replays: 1, Noise: 7, Out: 9}) {
		t.Errorf("in one piece: %s", told(o))
	}
	for at := range len(raw) + 1 {
		if testing.Short() && at%40 != 0 {
			continue
		}
		if o := checkPieces(t, fmt.Sprint("cut at ", at), [][]byte{raw[:at], raw[at:]}, tape); o.Err != api.OK {
			t.Errorf("cut at %d: %s", at, told(o))
		}
	}
	for _, size := range []int{1, 2, 3, 4, 23, 24, 25, 321, 322, 323} {
		if o := checkPieces(t, fmt.Sprint("in pieces of ", size), inPiecesOf(raw, size), tape); o.Err != api.OK {
			t.Errorf("in pieces of %d: %s", size, told(o))
		}
	}
}

// P24.5: batches of all kinds, and bytes that are none, in pieces of any size, with pieces of no bytes among them.
func TestPiecesOfAnySize(t *testing.T) {
	l := newLot(2531)
	errs := map[api.Errno]int{}
	for range fewer(150) {
		raw, tape := l.batch(held(3)), l.tape()
		for _, most := range []int{1, 7, 330, 2000} {
			errs[checkPieces(t, fmt.Sprint("pieces of at most ", most), l.pieces(raw, most), tape).Err]++
		}
	}
	for _, x := range spoilings() {
		errs[checkPieces(t, x.what, l.pieces(x.raw, 900), x.tape).Err]++
	}
	if errs[api.OK] < 20 || errs[api.ErrShort] < 2 || errs[api.ErrMore] < 2 || errs[api.ErrTape] < 2 {
		t.Errorf("the batches are too much alike: %v", errs)
	}
}

// P24.5: the longest batch, whole and with more behind it than a batch can have; and bytes without an end that are none.
func TestLongestBatch(t *testing.T) {
	raw, tape := packed(header(7, 9), cells[:256]...), make([]byte, 3000)
	if len(raw) != longest {
		t.Fatalf("%d bytes", len(raw))
	}
	short := packed(header(7, 9), cells[:2]...)
	for _, x := range []struct {
		raw  []byte
		want api.Errno
		at   int
	}{
		{raw, api.OK, 0}, {raw[:longest-1], api.ErrShort, longest - 1}, {append(slices.Clone(raw), 0), api.ErrMore, longest},
		{append(slices.Clone(raw), raw...), api.ErrMore, longest}, {append(slices.Clone(raw), make([]byte, 1<<20)...), api.ErrMore, longest},
		{append(turned(raw, longest-1, 1), 0, 0, 0), api.ErrFoot, longest - 4}, {append(turned(raw, 24+255*322, 1), make([]byte, 99)...), api.ErrCell, 24 + 255*322},
		{append(slices.Clone(short), make([]byte, 1<<20)...), api.ErrMore, len(short)}, {make([]byte, 1<<20), api.ErrMagic, 0},
	} {
		for _, pieces := range [][][]byte{{x.raw}, inPiecesOf(x.raw, 1000), inPiecesOf(x.raw, longest-1), inPiecesOf(x.raw, longest), inPiecesOf(x.raw, longest+1)} {
			if o := checkPieces(t, "long", pieces, tape); o.Err != x.want || o.At != x.at {
				t.Errorf("%d bytes in %d pieces: %s; want %d at %d", len(x.raw), len(pieces), told(o), x.want, x.at)
			}
		}
	}
}

// LANGUAGE.md, rule 8: bytes that can't have a say any more aren't kept.
func TestBytesWithoutAnEnd(t *testing.T) {
	s := must(server.New(config()))
	piece := make([]byte, 1<<20)
	s.Put(piece)
	var before, after runtime.MemStats
	runtime.ReadMemStats(&before)
	for range 200 {
		s.Put(piece)
	}
	runtime.ReadMemStats(&after)
	if grown := after.TotalAlloc - before.TotalAlloc; grown > 20<<20 {
		t.Errorf("for 200 pieces of a megabyte %d bytes were taken", grown)
	}
	if o := s.Finish(nil); o.Err != api.ErrMagic {
		t.Errorf("noughts: %s", told(o))
	}
}

// P24.1: Finish with nothing put is a round over no bytes, ahead of any Put, behind pieces of no bytes and behind another Finish.
func TestNothingPut(t *testing.T) {
	s := must(server.Load(config(), held(3)))
	want := api.Outcome{State: held(3), Err: api.ErrShort}
	for n := range 6 {
		if n > 2 {
			s.Put(nil)
			s.Put([]byte{})
		}
		if o := s.Finish(loud(300, 2532)); !sameOutcome(o, want) || !sameState(s.State(), held(3)) {
			t.Errorf("number %d: %s", n, told(o))
		}
	}
}

// P24.1: a batch that broke off is gone with Finish, at whatever place, and the next Put begins a new one; so it is behind a round refused for another cause.
func TestBrokenOff(t *testing.T) {
	raw, tape := packed(header(5, 9), cells[:2]...), loud(300, 2533)
	for at := 0; at < len(raw); at += 11 {
		p := newPair(t, config(), held(3))
		p.put(raw[:at])
		if o := p.finish(tape); o.Err != api.ErrShort || o.At != at {
			t.Errorf("%d bytes: %s", at, told(o))
		}
		p.put(raw[at:])
		if o := p.finish(tape); at > 0 && o.Err == api.OK {
			t.Errorf("%d bytes and then the rest: %s", at, told(o))
		}
		if at > 0 {
			p.put(raw)
			if o := p.finish(tape); o.Err != api.OK || o.Report.In != 2 {
				t.Errorf("behind %d bytes: %s", at, told(o))
			}
		}
	}
	for _, x := range spoilings() {
		p := newPair(t, config(), held(60))
		p.put(x.raw)
		if o := p.finish(x.tape); o.Err != x.want {
			t.Errorf("%s: %s; want %d", x.what, told(o), x.want)
		}
		p.put(raw)
		if o := p.finish(tape); o.Err != api.OK || o.Report.In != 2 {
			t.Errorf("behind %s: %s", x.what, told(o))
		}
	}
}

// P24.1: a Finish that went through takes its bytes too: batches one behind the other, each in pieces.
func TestBatchBehindBatch(t *testing.T) {
	l := newLot(2534)
	p := newPair(t, config(), api.State{Window: api.Window{Newest: 9}})
	for n := range 30 {
		p.put(l.pieces(packed(header(int64(n), 9), cells[n*5:n*5+7]...), 400)...)
		o := p.finish(loud(500, int64(n)))
		if want := min(2, n*2); o.Err != api.OK || o.Report.In != 7 || o.Report.Replays != want {
			t.Errorf("batch %d: %s; want %d replays", n, told(o), want)
		}
	}
}

// P24.1: Round between the pieces, by any engine, refused or not, and State too: what was put counts for nothing there, and stays.
func TestRoundBetweenPieces(t *testing.T) {
	raw := packed(header(100, 9), cells[10:13]...)
	for at := 0; at <= len(raw); at += 83 {
		p := newPair(t, config(), held(3))
		p.put(raw[:at])
		for n, engine := range append(engines, 3, -1) {
			o := p.round(engine, packed(header(int64(10+n), 9), cells[n]), loud(300, 2535), 1, 2, 3)
			if want := map[bool]api.Errno{true: api.OK, false: api.ErrArg}[n < 3]; o.Err != want || o.Report.In != 1-n/3 {
				t.Errorf("%d bytes put, Round by %d: %s", at, engine, told(o))
			}
			if o := p.round(engine%3, nil, loud(300, 2535)); o.Err == api.OK {
				t.Errorf("%d bytes put, Round by %d over no bytes: %s", at, engine, told(o))
			}
		}
		p.put(raw[at:])
		if o := p.finish(loud(300, 2536)); o.Err != api.OK || o.Report.In != 3 || o.State.Next != 101 {
			t.Errorf("%d bytes put, rounds, and then the rest: %s", at, told(o))
		}
	}
}

// P24.1: pieces that were put ahead of a round of their own number are too late behind it.
func TestTooLate(t *testing.T) {
	p := newPair(t, config(), held(3))
	p.put(packed(header(5, 9), cells[0]))
	p.round(server.ByMix, packed(header(5, 9), cells[1]), loud(300, 2537))
	if o := p.finish(loud(300, 2537)); o.Err != api.ErrRound || o.State.Next != 6 {
		t.Errorf("%s", told(o))
	}
}
