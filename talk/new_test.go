package talk_test

import (
	"fmt"
	"math"
	"slices"
	"testing"

	"churn/api"
	"churn/cascade"
	"churn/talk"
)

// checkNew: what New answers, held against cascade.New and against an error.
func checkNew(t *testing.T, what string, cs []api.Config, want api.Errno) {
	t.Helper()
	r, e := talk.New(cs)
	if e != want || (r == nil) != (want != api.OK) {
		t.Errorf("%s: nil is %v, error %d; want %d", what, r == nil, e, want)
	}
	if _, e := cascade.New(cs); e != want {
		t.Errorf("%s: cascade.New tells error %d; want %d", what, e, want)
	}
}

// changed: right configurations, with something done to one of them.
func changed(hops, at int, change func(c *api.Config)) []api.Config {
	cs := configs(hops)
	change(&cs[at])
	return cs
}

// unfit: the ways in which a configuration doesn't fit, whatever its Left is.
func unfit() []func(c *api.Config) {
	return []func(c *api.Config){
		func(c *api.Config) { c.Master = nil },
		func(c *api.Config) { c.Master = c.Master[:31] },
		func(c *api.Config) { c.Master = make([]byte, 33) },
		func(c *api.Config) { c.Span = 0 },
		func(c *api.Config) { c.Span = 9 },
		func(c *api.Config) { c.Room = -1 },
		func(c *api.Config) { c.Room = 4097 },
		func(c *api.Config) { c.Num = 2 },
		func(c *api.Config) { c.Num = -1 },
		func(c *api.Config) { c.Den = 0 },
		func(c *api.Config) { c.Den = 1001 },
		func(c *api.Config) { c.Noise = 17 },
		func(c *api.Config) { c.Chunks = 65 },
		func(c *api.Config) { c.Chunks = 0 },
		func(c *api.Config) { c.Workers = 0 },
		func(c *api.Config) { c.Cap = math.MinInt },
		func(c *api.Config) { c.Shards = math.MaxInt },
		func(c *api.Config) { *c = api.Config{Left: c.Left} },
	}
}

// P30.1: New with no configuration, one, as many as there may be, and too many.
func TestNew(t *testing.T) {
	for hops := range 20 {
		want := api.OK
		if hops < 1 || hops > 8 {
			want = api.ErrChain
		}
		checkNew(t, fmt.Sprint(hops, " configurations"), configs(hops), want)
	}
	checkNew(t, "nil", nil, api.ErrChain)
	checkNew(t, "an empty list", []api.Config{}, api.ErrChain)
	checkNew(t, "a thousand that don't fit", make([]api.Config, 1000), api.ErrChain)
	checkNew(t, "one that doesn't fit", make([]api.Config, 1), api.ErrConfig)
}

// P30.1: New with a configuration that doesn't fit, at each place.
func TestNewUnfit(t *testing.T) {
	for hops := 1; hops <= 8; hops++ {
		for at := range hops {
			for n, change := range unfit() {
				checkNew(t, fmt.Sprintf("number %d of %d, way %d", at, hops, n), changed(hops, at, change), api.ErrConfig)
			}
			for left := -1; left <= 10; left++ {
				want := api.ErrHop
				switch {
				case left == hops-at:
					want = api.OK
				case left < 1 || left > 8:
					want = api.ErrConfig
				}
				checkNew(t, fmt.Sprintf("number %d of %d, Left %d", at, hops, left), changed(hops, at, func(c *api.Config) { c.Left = left }), want)
			}
		}
	}
	backwards := configs(3)
	slices.Reverse(backwards)
	checkNew(t, "the other way round", backwards, api.ErrHop)
	checkNew(t, "without the first", configs(3)[1:], api.OK)
	checkNew(t, "without the last", configs(3)[:2], api.ErrHop)
}

// P30.1: which of New's errors comes first.
func TestNewOrder(t *testing.T) {
	wrongLeft := func(c *api.Config) { c.Left = c.Left%8 + 1 }
	noWorkers := func(c *api.Config) { c.Workers = 0 }
	both := func(c *api.Config) { wrongLeft(c); noWorkers(c) }
	nothing := func(*api.Config) {}
	for _, x := range []struct {
		what                 string
		first, second, third func(c *api.Config)
		want                 api.Errno
	}{
		{"nothing wrong", nothing, nothing, nothing, api.OK},
		{"Left, then a number", wrongLeft, noWorkers, nothing, api.ErrHop},
		{"a number, then Left", noWorkers, wrongLeft, nothing, api.ErrConfig},
		{"both in one", nothing, both, nothing, api.ErrConfig},
		{"both in one, behind a Left", wrongLeft, nothing, both, api.ErrHop},
		{"all both", both, both, both, api.ErrConfig},
	} {
		cs := configs(3)
		x.first(&cs[0])
		x.second(&cs[1])
		x.third(&cs[2])
		checkNew(t, x.what, cs, x.want)
	}
	checkNew(t, "nine, the first wrong", changed(9, 0, both), api.ErrChain)
}
