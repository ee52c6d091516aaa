package back_test

import (
	"fmt"
	"math"
	"math/rand"
	"slices"
	"testing"

	"churn/api"
)

// memory: a right one of a round in which so many cells came in and as many went out, in their order turned round.
func memory(left, count int) api.Memory {
	m := api.Memory{Header: header(5, 6, left), Count: count}
	for j := range count {
		m.From = append(m.From, count-1-j)
		m.Nonces = append(m.Nonces, nonce(j+1))
	}
	return m
}

// many: n of the same number.
func many(n, of int) []int { return slices.Repeat([]int{of}, n) }

// P29.1: the chapter's examples of Check.
func TestExamplesOfCheck(t *testing.T) {
	checks(t, "the zero memory", api.Memory{}, api.OK)
	checks(t, "Count 1 and no nonce", api.Memory{Count: 1}, api.ErrMemory)
	checks(t, "From 0 0", api.Memory{Count: 1, From: []int{0, 0}, Nonces: make([][16]byte, 1)}, api.ErrMemory)
	checks(t, "From -1 -1", api.Memory{Count: 1, From: []int{-1, -1}, Nonces: make([][16]byte, 1)}, api.OK)
	checks(t, "From -1 -1 and no cell", api.Memory{From: []int{-1, -1}}, api.OK)
}

// P29.1: the header's numbers at, below and above their limits, and at both ends of their types.
func TestCheckHeader(t *testing.T) {
	want := func(is bool) api.Errno {
		if is {
			return api.OK
		}
		return api.ErrMemory
	}
	for _, left := range []int{math.MinInt, -256, -2, -1, 0, 1, 2, 3, 4, 5, 6, 7, 8, 9, 256, 1 << 32, 1<<32 + 3, math.MaxInt} {
		m := memory(1, 3)
		m.Header.Left = left
		checks(t, fmt.Sprint("Left ", left), m, want(left >= 0 && left <= 7))
	}
	for _, n := range []int64{math.MinInt64, math.MinInt64 + 1, -top - 1, -top, -1, 0, 1, 1 << 32, top - 2, top - 1, top, top + 1, math.MaxInt64 - 1, math.MaxInt64} {
		m := memory(1, 3)
		m.Header.Round = n
		checks(t, fmt.Sprint("Round ", n), m, want(n >= 0 && n < top))
		m = memory(1, 3)
		m.Header.Epoch = n
		checks(t, fmt.Sprint("Epoch ", n), m, want(n >= 0 && n <= top))
	}
}

// P29.1: Count at its limits and beyond, with as many nonces, one less and one more, none at all, and where the nonces alone fit.
func TestCheckCount(t *testing.T) {
	for _, count := range []int{math.MinInt, math.MinInt + 1, -257, -256, -2, -1, 0, 1, 2, 255, 256, 257, 258, 512, 65536, 1 << 31, 1 << 32, 1 << 40, math.MaxInt - 1, math.MaxInt} {
		for _, nonces := range []int{0, 1, 2, 254, 255, 256, 257, 258, 512, 65536} {
			m := api.Memory{Count: count, Nonces: make([][16]byte, nonces)}
			want := api.ErrMemory
			if count == nonces && count <= 256 {
				want = api.OK
			}
			for _, from := range [][]int{nil, {}, {-1}, many(256, -1)} {
				m.From = from
				checks(t, fmt.Sprintf("Count %d, %d nonces, %d numbers", count, nonces, len(from)), m, want)
			}
		}
	}
}

// P29.1: how many numbers From has, whatever Count is: as many of noise as one likes up to a full batch, and no more.
func TestCheckLengthOfFrom(t *testing.T) {
	for _, count := range []int{0, 1, 2, 255, 256} {
		for _, n := range []int{0, 1, 2, 3, 255, 256, 257, 258, 511, 512, 513, 65536} {
			m := memory(2, count)
			want := api.OK
			if n > 256 {
				want = api.ErrMemory
			}
			m.From = many(n, -1)
			checks(t, fmt.Sprintf("Count %d, %d of noise", count, n), m, want)
			for i := range min(n, count) {
				m.From[i] = i
			}
			checks(t, fmt.Sprintf("Count %d, each once in %d", count, n), m, want)
		}
	}
}

// P29.1: each number of From below, at and above its limits, at each place of a short list and of a full one.
func TestCheckNumbersOfFrom(t *testing.T) {
	for _, count := range []int{0, 1, 2, 5, 256} {
		for _, n := range []int{1, 2, 256} {
			for _, at := range []int{0, n / 2, n - 1} {
				for _, j := range []int{math.MinInt, math.MinInt + 1, -1 << 32, -257, -256, -count - 1, -3, -2, -1, 0, count - 2, count - 1, count, count + 1, 255, 256, 257, 1 << 32, math.MaxInt - 1, math.MaxInt} {
					m := memory(2, count)
					m.From = many(n, -1)
					m.From[at] = j
					want := api.ErrMemory
					if j >= -1 && j < count {
						want = api.OK
					}
					checks(t, fmt.Sprintf("Count %d, %d at place %d of %d", count, j, at, n), m, want)
				}
			}
		}
	}
}

// P29.1: each number twice, at each two places; -1 at any of them.
func TestCheckTwice(t *testing.T) {
	for _, count := range []int{2, 3, 7, 256} {
		for a := range count {
			for b := range a {
				if count == 256 && (a%37 != 0 || b%41 > 1) {
					continue
				}
				m := memory(3, count)
				m.From[a] = m.From[b]
				checks(t, fmt.Sprintf("Count %d, place %d as place %d", count, a, b), m, api.ErrMemory)
				m.From[a] = -1
				checks(t, fmt.Sprintf("Count %d, noise at place %d", count, a), m, api.OK)
				m.From[b] = -1
				checks(t, fmt.Sprintf("Count %d, noise at the places %d and %d", count, a, b), m, api.OK)
				m.From[a] = count - 1 - b
				checks(t, fmt.Sprintf("Count %d, place %d as place %d was", count, a, b), m, api.OK)
			}
		}
	}
	m := memory(3, 256)
	checks(t, "each of 256", m, api.OK)
	m.From[255] = 255
	checks(t, "255 twice", m, api.ErrMemory)
}

// P29.1: all lists of up to four numbers from -2 to 3, for each Count up to 3.
func TestCheckShortLists(t *testing.T) {
	right := 0
	for count := range 4 {
		for n := range 5 {
			total := 1
			for range n {
				total *= 6
			}
			for k := range total {
				m := memory(0, count)
				m.From = nil
				for rest := k; len(m.From) < n; rest /= 6 {
					m.From = append(m.From, rest%6-2)
				}
				want := definedCheck(m)
				checks(t, fmt.Sprint("Count ", count), m, want)
				if want == api.OK {
					right++
				}
			}
		}
	}
	// Of n places so many are noise; the others have numbers that are all different.
	if want := (1 + 1 + 1 + 1 + 1) + (1 + 2 + 3 + 4 + 5) + (1 + 3 + 7 + 13 + 21) + (1 + 4 + 13 + 34 + 73); right != want {
		t.Errorf("%d lists are right; want %d", right, want)
	}
}

// anyMemory: a drawn one, most often right but for a fault or two.
func anyMemory(r *rand.Rand) api.Memory {
	count := r.Intn(1 + r.Intn(12))
	m := memory(r.Intn(8), count)
	m.Header.Round, m.Header.Epoch = r.Int63()>>1, r.Int63()>>1
	r.Shuffle(count, func(i, j int) { m.From[i], m.From[j] = m.From[j], m.From[i] })
	m.From = m.From[:r.Intn(count+1)]
	for range r.Intn(5) {
		m.From = slices.Insert(m.From, r.Intn(len(m.From)+1), -1)
	}
	for i := range m.Nonces {
		if r.Intn(3) == 0 {
			m.Nonces[i] = [16]byte{}
		}
	}
	return m
}

// spoilMemory: one number of it changed, so that it may be wrong.
func spoilMemory(r *rand.Rand, m *api.Memory) {
	switch r.Intn(7) {
	case 0:
		m.Header.Left += []int{-8, -1, 1, 8}[r.Intn(4)]
	case 1:
		m.Header.Round = []int64{-1, top - 1, top, math.MaxInt64}[r.Intn(4)]
	case 2:
		m.Header.Epoch = []int64{-1, top, top + 1, math.MinInt64}[r.Intn(4)]
	case 3:
		m.Count += []int{-1, 1, math.MinInt, math.MaxInt}[r.Intn(4)]
	case 4:
		m.Nonces = append(m.Nonces, nonce(1))
	case 5:
		m.From = append(m.From, r.Intn(m.Count&7+3)-2)
	case 6:
		if len(m.From) > 1 {
			m.From[r.Intn(len(m.From))] = m.From[r.Intn(len(m.From))]
		}
	}
}

// P29.1: drawn memories, with several faults at one time.
func TestCheckAny(t *testing.T) {
	r := rand.New(rand.NewSource(2901))
	seen := map[api.Errno]int{}
	for i := range 20000 {
		m := anyMemory(r)
		for range r.Intn(3) {
			spoilMemory(r, &m)
		}
		want := definedCheck(m)
		checks(t, fmt.Sprint("number ", i), m, want)
		seen[want]++
	}
	if seen[api.OK] < 3000 || seen[api.ErrMemory] < 3000 {
		t.Errorf("the drawn ones are too much alike: %v", seen)
	}
}
