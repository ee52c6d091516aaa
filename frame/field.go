package frame

import "churn/api"

// A field is a part of a batch's bytes that is judged as one.
type field int

// The fields, in their order; the length and the cell stand there once for each cell.
const (
	lettersField field = iota
	versionField
	leftField
	countField
	roundField
	epochField
	lengthField
	cellField
	footField
	nothingField // the byte that mustn't stand behind the foot
)

// A rule is how many bytes a field has, and the lowest and the highest number that they may tell; the fault, if they tell another.
type rule struct {
	size      int
	low, high uint64
	fault     api.Errno
}

// rules, by field. A cell has no numbers: it is never wrong. The foot's number hangs on the bytes ahead of it.
var rules = [...]rule{
	lettersField: {4, letters, letters, api.ErrMagic},
	versionField: {1, version, version, api.ErrVersion},
	leftField:    {1, 0, api.MaxHops, api.ErrHeader},
	countField:   {2, 0, api.MaxBatch, api.ErrCount},
	roundField:   {8, 0, maxRound, api.ErrHeader},
	epochField:   {8, 0, maxEpoch, api.ErrHeader},
	lengthField:  {2, api.CellSize, api.CellSize, api.ErrCell},
	cellField:    {api.CellSize, 0, 0, api.OK},
	footField:    {4, 0, 0, api.ErrFoot},
	nothingField: {1, 1, 0, api.ErrMore}, // no number is at least 1 and at most 0
}

// number: what the bytes tell, eight at most.
func number(p []byte) uint64 {
	n := uint64(0)
	for _, b := range p {
		n = n<<8 | uint64(b)
	}
	return n
}

// withNumber: p and behind it the number in that many bytes.
func withNumber(p []byte, n uint64, size int) []byte {
	for i := size - 1; i >= 0; i-- {
		p = append(p, byte(n>>(8*i)))
	}
	return p
}

const modulus = 65521

// sums are the two numbers of a foot.
type sums struct {
	a, b uint32
}

// noBytes: the numbers as they begin.
func noBytes() sums { return sums{a: 1} }

// over: the numbers, gone on over the bytes.
func (s sums) over(p []byte) sums {
	for _, x := range p {
		s.a = (s.a + uint32(x)) % modulus
		s.b = (s.b + s.a) % modulus
	}
	return s
}

// number: the foot's four bytes as one number.
func (s sums) number() uint64 { return uint64(s.b)<<16 | uint64(s.a) }
