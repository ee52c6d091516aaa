package steps_test

import (
	"bytes"
	"math/rand"
	"slices"
	"testing"

	"churn/api"
	"churn/braid"
	"churn/frame"
	"churn/noise"
	"churn/riffle"
	"churn/steps"
	"churn/tape"
)

var conf = api.Config{Master: make([]byte, 32), Left: 2, Span: 2, Room: 3, Num: 1, Den: 1, Noise: 3, Chunks: 2, Workers: 1, Shards: 1}

var state = api.State{Next: 4, Window: api.Window{Newest: 6, Epochs: []api.Epoch{{Number: 5, Tags: [][16]byte{{1}}}, {Number: 6, Tags: [][16]byte{{2}}}}}}

func packed(round, epoch int64, left int, cells ...[]byte) []byte {
	raw, e := frame.Pack(api.Batch{Header: api.Header{Round: round, Epoch: epoch, Left: left}, Cells: cells})
	if e != api.OK {
		panic(e)
	}
	return raw
}

// DOC.md, steps 2 and 3: the errors in their order, the place beside those of the bytes alone, and the window at the batch's epoch.
func TestOpen(t *testing.T) {
	good := packed(4, 7, 2, make([]byte, 320))
	for _, x := range []struct {
		raw  []byte
		want api.Errno
		at   int
	}{
		{good, api.OK, 0}, {good[:30], api.ErrShort, 30}, {append(slices.Clone(good), 1), api.ErrMore, len(good)},
		{packed(3, 1, 1), api.ErrHop, 0}, {packed(3, 1, 3), api.ErrHop, 0}, {packed(3, 1, 2), api.ErrRound, 0}, {packed(4, 4, 2), api.ErrEpoch, 0}, {packed(4, 6+1025, 2), api.ErrEpoch, 0},
	} {
		b, w, at, e := steps.Open(conf, state, x.raw)
		if e != x.want || at != x.at {
			t.Errorf("error %d at %d; want %d at %d", e, at, x.want, x.at)
		}
		if e != api.OK && (b.Header != api.Header{} || len(b.Cells)+len(w.Epochs) > 0 || w.Newest != 0) {
			t.Errorf("beside error %d: %+v, %+v", e, b, w)
		}
		if e == api.OK && (len(b.Cells) != 1 || b.Header.Round != 4 || w.Newest != 7 || len(w.Epochs) != 1 || w.Epochs[0].Number != 6) {
			t.Errorf("%+v, %+v", b, w)
		}
	}
}

// DOC.md, step 5: the noise, and the crowd just where it is too great.
func TestNoise(t *testing.T) {
	part := slices.Repeat([]byte{255}, 18)
	want, _ := noise.Cells(part, 3, 1)
	if list, e := steps.Noise(conf, 253, part); e != api.OK || !slices.EqualFunc(list, want, bytes.Equal) {
		t.Errorf("253 and 3: %d cells, error %d", len(list), e)
	}
	if list, e := steps.Noise(conf, 254, part); e != api.ErrCrowd || list != nil {
		t.Errorf("254 and 3: %d cells, error %d", len(list), e)
	}
	if list, e := steps.Noise(conf, 254, part[:17]); e != api.ErrTape || list != nil {
		t.Errorf("17 bytes: %d cells, error %d", len(list), e)
	}
}

// DOC.md, step 6: the chunks each for itself and then their braid are the shuffle, and refused where that is.
func TestChunksAndBraid(t *testing.T) {
	r := rand.New(rand.NewSource(2231))
	refused := 0
	for range 2000 {
		list, chunks := r.Perm(r.Intn(20)), 1+r.Intn(6)
		p := make([]byte, 18+r.Intn(150))
		r.Read(p)
		want, wantErr := riffle.Shuffle(p, chunks, list)
		got, e := inPieces(p, chunks, list)
		if e != wantErr || !slices.Equal(got, want) {
			t.Errorf("%d things, %d chunks, %d bytes: %v, error %d; want %v, %d", len(list), chunks, len(p), got, e, want, wantErr)
		}
		if e != api.OK {
			refused++
		}
	}
	if refused < 100 || refused > 1900 {
		t.Errorf("%d of 2000 were refused", refused)
	}
}

func inPieces(p []byte, chunks int, list []int) ([]int, api.Errno) {
	parts, _ := tape.Split(p, chunks)
	lists, e := steps.Cut(list, chunks)
	if e != api.OK {
		return nil, e
	}
	for j := range lists {
		if lists[j], e = steps.Chunk(parts.Chunks[j], lists[j]); e != api.OK {
			return nil, e
		}
	}
	return steps.Braid(parts.Braid, lists)
}

// DOC.md, step 6: the chunks are pieces of the list, of the sizes that braid tells; refused where braid refuses.
func TestCut(t *testing.T) {
	list := rand.New(rand.NewSource(2232)).Perm(256)
	for _, n := range []int{0, 1, 5, 64, 256} {
		for _, chunks := range []int{1, 2, 3, 64} {
			pieces, e := steps.Cut(list[:n], chunks)
			sizes, _ := braid.Sizes(n, chunks)
			if e != api.OK || len(pieces) != chunks || !slices.Equal(slices.Concat(pieces...), list[:n]) {
				t.Errorf("%d things, %d chunks: %v, error %d", n, chunks, pieces, e)
			}
			for j, piece := range pieces {
				if len(piece) != sizes[j] {
					t.Errorf("%d things, %d chunks: chunk %d has %d; want %d", n, chunks, j, len(piece), sizes[j])
				}
			}
		}
	}
	for _, x := range [][2]int{{5, 0}, {5, -1}, {5, 65}, {257, 3}} {
		if pieces, e := steps.Cut(make([]int, x[0]), x[1]); e != api.ErrArg || pieces != nil {
			t.Errorf("%d things, %d chunks: %v, error %d", x[0], x[1], pieces, e)
		}
	}
}

// DOC.md, step 6: the pattern tells for each place the chunk whose next thing the braid has there; refused where the braid is.
func TestPattern(t *testing.T) {
	r := rand.New(rand.NewSource(2233))
	for range 500 {
		lists, _ := steps.Cut(r.Perm(r.Intn(30)), 1+r.Intn(6))
		p := make([]byte, r.Intn(60))
		r.Read(p)
		pattern, e := steps.Pattern(p, lists)
		want, wantErr := steps.Braid(p, lists)
		var woven []int
		for _, j := range pattern {
			woven, lists[j] = append(woven, lists[j][0]), lists[j][1:]
		}
		if e != wantErr || !slices.Equal(woven, want) {
			t.Errorf("%v tells %v, error %d; want %v, %d", pattern, woven, e, want, wantErr)
		}
	}
}

// DOC.md, steps 7 and 8: the window with the new tags, the bytes with Left one lower, the next round and the report.
func TestClose(t *testing.T) {
	h := api.Header{Round: 9, Epoch: 6, Left: 2}
	fresh := []api.Peeled{{Cell: bytes.Repeat([]byte{5}, 320), Replay: [16]byte{9}}}
	cells := append(steps.Cells(fresh), make([]byte, 320))
	if !slices.Equal(steps.Tags(fresh), [][16]byte{{9}}) {
		t.Errorf("tags %v", steps.Tags(fresh))
	}
	o, e := steps.Close(conf, state.Window, h, fresh, cells, api.Report{In: 3, Malformed: 1, Replays: 1})
	if e != api.OK || o.Err != api.OK || o.At != 0 || o.Report != (api.Report{In: 3, Malformed: 1, Replays: 1, Noise: 1, Out: 2}) {
		t.Errorf("%+v, error %d", o, e)
	}
	if !bytes.Equal(o.Out, packed(9, 6, 1, cells...)) || o.State.Next != 10 || !slices.Equal(o.State.Window.Epochs[1].Tags, [][16]byte{{2}, {9}}) {
		t.Errorf("%+v", o.State)
	}
	two := append(fresh, api.Peeled{Cell: make([]byte, 320), Replay: [16]byte{8}})
	if o, e := steps.Close(conf, state.Window, h, two, cells, api.Report{}); e != api.ErrFull || len(o.Out) > 0 || o.State.Next != 0 {
		t.Errorf("four tags: %+v, error %d", o, e)
	}
}

// DOC.md, 'Beside an error': no bytes, no report, and a copy of the state, sound or not.
func TestRefused(t *testing.T) {
	odd := api.State{Next: -5, Window: api.Window{Newest: -1, Epochs: []api.Epoch{{Number: 3, Tags: [][16]byte{{2}, {1}}}, {Number: 3}}}}
	o := steps.Refused(odd, api.ErrConfig, 7)
	w := o.State.Window
	if o.Err != api.ErrConfig || o.At != 7 || len(o.Out) != 0 || o.Report != (api.Report{}) || o.State.Next != -5 || w.Newest != -1 || len(w.Epochs) != 2 || !slices.Equal(w.Epochs[0].Tags, odd.Window.Epochs[0].Tags) {
		t.Errorf("%+v", o)
	}
	w.Epochs[0].Tags[0] = [16]byte{9}
	w.Epochs[1].Number = 8
	if odd.Window.Epochs[0].Tags[0] != [16]byte{2} || odd.Window.Epochs[1].Number != 3 {
		t.Error("the copy shares memory with the state")
	}
}
