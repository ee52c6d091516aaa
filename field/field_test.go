package field_test

import (
	"crypto/aes"
	"fmt"
	"math"
	"math/big"
	"math/rand"
	"sync"
	"testing"

	"churn/field"
)

// modulus: x^8 + x^4 + x^3 + x + 1.
const modulus = 0x11B

// definedMul: the chapter's words: the product of the polynomials, and then as many multiples of the modulus taken away as it has.
func definedMul(a, b byte) byte {
	product := 0
	for i := range 8 {
		for j := range 8 {
			product ^= int(a>>i&1) * int(b>>j&1) << (i + j)
		}
	}
	for i := 14; i >= 8; i-- {
		if product>>i&1 == 1 {
			product ^= modulus << (i - 8)
		}
	}
	return byte(product)
}

// definedInv: the one element with which a's product is 1; and how many there are.
func definedInv(a byte) (inverse byte, count int) {
	for b := range 256 {
		if definedMul(a, byte(b)) == 1 {
			inverse, count = byte(b), count+1
		}
	}
	return inverse, count
}

// definedPow: the chapter's words for an n whose product can be gone through factor by factor.
func definedPow(a byte, n int) byte {
	if n < 0 {
		a, _ = definedInv(a)
		n = -n
	}
	product := byte(1)
	for range n {
		product = definedMul(product, a)
	}
	return product
}

// affine: the chapter's words, bit by bit.
func affine(b byte) byte {
	bit := func(of byte, i int) byte { return of >> (i % 8) & 1 }
	var out byte
	for i := range 8 {
		out |= (bit(b, i) ^ bit(b, i+4) ^ bit(b, i+5) ^ bit(b, i+6) ^ bit(b, i+7) ^ bit(0x63, i)) << i
	}
	return out
}

// mixing and unmixing: the chapter's factors, row by row.
var mixing = [4][4]byte{{2, 3, 1, 1}, {1, 2, 3, 1}, {1, 1, 2, 3}, {3, 1, 1, 2}}
var unmixing = [4][4]byte{{14, 11, 13, 9}, {9, 14, 11, 13}, {13, 9, 14, 11}, {11, 13, 9, 14}}

func definedColumn(rows [4][4]byte, c [4]byte) [4]byte {
	var out [4]byte
	for i, row := range rows {
		for j, factor := range row {
			out[i] ^= definedMul(factor, c[j])
		}
	}
	return out
}

func check(t *testing.T, what string, got, want byte) {
	t.Helper()
	if got != want {
		t.Errorf("%s: %#02x, not %#02x", what, got, want)
	}
}

// every: what goes through all elements.
func every(do func(a byte)) {
	for a := range 256 {
		do(byte(a))
	}
}

// everyPair: what goes through all pairs of elements.
func everyPair(do func(a, b byte)) {
	every(func(a byte) { every(func(b byte) { do(a, b) }) })
}

// someColumns: columns with one byte that isn't 0, for each place and byte; columns of one byte; and others without a rule.
func someColumns() [][4]byte {
	columns := [][4]byte{{}, {0xDB, 0x13, 0x53, 0x45}, {0xFF, 0xFF, 0xFF, 0xFF}, {0, 0x80, 0, 0x80}}
	every(func(a byte) {
		columns = append(columns, [4]byte{a}, [4]byte{0, a}, [4]byte{0, 0, a}, [4]byte{0, 0, 0, a}, [4]byte{a, a, a, a})
	})
	source := rand.New(rand.NewSource(3))
	for range 20000 {
		n := source.Uint32()
		columns = append(columns, [4]byte{byte(n), byte(n >> 8), byte(n >> 16), byte(n >> 24)})
	}
	return columns
}

// P3.1: the chapter's examples.
func TestExamples(t *testing.T) {
	check(t, "Mul(0x57, 0x83)", field.Mul(0x57, 0x83), 0xC1)
	check(t, "Mul(0x57, 0x13)", field.Mul(0x57, 0x13), 0xFE)
	check(t, "Add(0x57, 0x83)", field.Add(0x57, 0x83), 0xD4)
	check(t, "Inv(0x53)", field.Inv(0x53), 0xCA)
	check(t, "Inv(1)", field.Inv(1), 1)
	check(t, "Inv(0)", field.Inv(0), 0)
	check(t, "Pow(2, 8)", field.Pow(2, 8), 0x1B)
	check(t, "Pow(3, 255)", field.Pow(3, 255), 1)
	check(t, "Pow(0, 0)", field.Pow(0, 0), 1)
	check(t, "Pow(0, -1)", field.Pow(0, -1), 0)
	check(t, "Pow(0x53, -1)", field.Pow(0x53, -1), 0xCA)
}

// P3.1: Add and Mul of all pairs.
func TestAddAndMulOfAllPairs(t *testing.T) {
	everyPair(func(a, b byte) {
		check(t, fmt.Sprintf("Add(%#x, %#x)", a, b), field.Add(a, b), a^b)
		check(t, fmt.Sprintf("Mul(%#x, %#x)", a, b), field.Mul(a, b), definedMul(a, b))
	})
}

// P3.1: Inv of every element: the one with which its product is 1, and 0 for 0.
func TestInvOfAll(t *testing.T) {
	every(func(a byte) {
		want, count := definedInv(a)
		if a != 0 && count != 1 || a == 0 && count != 0 {
			t.Errorf("%#x has %d inverses", a, count)
		}
		check(t, fmt.Sprintf("Inv(%#x)", a), field.Inv(a), want)
		check(t, fmt.Sprintf("Inv of Inv(%#x)", a), field.Inv(field.Inv(a)), a)
	})
}

// P3.1: Pow of every element, factor by factor, past the 255 and the 510 at which the powers come round, on both sides.
func TestPowFactorByFactor(t *testing.T) {
	every(func(a byte) {
		inverse, _ := definedInv(a)
		up, down := byte(1), byte(1)
		for n := range 600 {
			check(t, fmt.Sprintf("Pow(%#x, %d)", a, n), field.Pow(a, n), up)
			check(t, fmt.Sprintf("Pow(%#x, %d)", a, -n), field.Pow(a, -n), down)
			up, down = definedMul(up, a), definedMul(down, inverse)
		}
	})
}

// wantPow: Pow for an n of any size: but for 0 the powers come round after 255 factors, so that n counts modulo 255 alone.
func wantPow(a byte, n int) byte {
	if a == 0 {
		if n == 0 {
			return 1
		}
		return 0
	}
	left := new(big.Int).Mod(big.NewInt(int64(n)), big.NewInt(255)) // never below 0
	return definedPow(a, int(left.Int64()))
}

// P3.1: Pow at its edges, of every element.
func TestPowAtItsEdges(t *testing.T) {
	edges := []int{
		0, 1, -1, 2, -2, 7, 8, 9, 127, 128, 253, 254, 255, 256, 257, -253, -254, -255, -256, -257, 510, -510, 65535, 65536, -65536,
		math.MaxInt32, math.MaxInt32 + 1, math.MinInt32, math.MinInt32 - 1, math.MaxUint32, math.MaxUint32 + 1, -math.MaxUint32,
		math.MaxInt, math.MaxInt - 1, math.MinInt, math.MinInt + 1, math.MaxInt / 2, math.MinInt / 2, math.MinInt/2 - 1,
	}
	for _, n := range edges {
		every(func(a byte) {
			check(t, fmt.Sprintf("Pow(%#x, %d)", a, n), field.Pow(a, n), wantPow(a, n))
		})
	}
}

// P3.1: the edges that the issue names, written out for the elements 0, 1, 2 and 3.
func TestPowAtItsEdgesWrittenOut(t *testing.T) {
	for _, c := range []struct {
		n    int
		want [4]byte
	}{
		{0, [4]byte{1, 1, 1, 1}},
		{1, [4]byte{0, 1, 2, 3}},
		{-1, [4]byte{0, 1, 0x8D, 0xF6}},
		{254, [4]byte{0, 1, 0x8D, 0xF6}},
		{255, [4]byte{0, 1, 1, 1}},
		{256, [4]byte{0, 1, 2, 3}},
		{-255, [4]byte{0, 1, 1, 1}},
		{math.MaxInt64, [4]byte{0, 1, 0x7D, 0xA0}}, // 2^63 - 1 leaves 127 over 255
		{math.MinInt64, [4]byte{0, 1, 0x7D, 0xA0}}, // and so does -2^63
	} {
		for a, want := range c.want {
			check(t, fmt.Sprintf("Pow(%d, %d)", a, c.n), field.Pow(byte(a), c.n), want)
		}
	}
}

// P3.1: Pow of any numbers, and what holds between powers.
func TestPowOfAnyNumbers(t *testing.T) {
	source := rand.New(rand.NewSource(31))
	for range 20000 {
		n := int(source.Uint64()) >> source.Intn(64)
		a := byte(source.Intn(256))
		check(t, fmt.Sprintf("Pow(%#x, %d)", a, n), field.Pow(a, n), wantPow(a, n))
		if a != 0 && n != math.MinInt {
			check(t, fmt.Sprintf("Pow(%#x, %d) with Pow of less", a, n), field.Mul(field.Pow(a, n), field.Pow(a, -n)), 1)
		}
	}
}

// box: FIPS 197's table of the substitution, as written there.
var box = [256]byte{
	0x63, 0x7c, 0x77, 0x7b, 0xf2, 0x6b, 0x6f, 0xc5, 0x30, 0x01, 0x67, 0x2b, 0xfe, 0xd7, 0xab, 0x76,
	0xca, 0x82, 0xc9, 0x7d, 0xfa, 0x59, 0x47, 0xf0, 0xad, 0xd4, 0xa2, 0xaf, 0x9c, 0xa4, 0x72, 0xc0,
	0xb7, 0xfd, 0x93, 0x26, 0x36, 0x3f, 0xf7, 0xcc, 0x34, 0xa5, 0xe5, 0xf1, 0x71, 0xd8, 0x31, 0x15,
	0x04, 0xc7, 0x23, 0xc3, 0x18, 0x96, 0x05, 0x9a, 0x07, 0x12, 0x80, 0xe2, 0xeb, 0x27, 0xb2, 0x75,
	0x09, 0x83, 0x2c, 0x1a, 0x1b, 0x6e, 0x5a, 0xa0, 0x52, 0x3b, 0xd6, 0xb3, 0x29, 0xe3, 0x2f, 0x84,
	0x53, 0xd1, 0x00, 0xed, 0x20, 0xfc, 0xb1, 0x5b, 0x6a, 0xcb, 0xbe, 0x39, 0x4a, 0x4c, 0x58, 0xcf,
	0xd0, 0xef, 0xaa, 0xfb, 0x43, 0x4d, 0x33, 0x85, 0x45, 0xf9, 0x02, 0x7f, 0x50, 0x3c, 0x9f, 0xa8,
	0x51, 0xa3, 0x40, 0x8f, 0x92, 0x9d, 0x38, 0xf5, 0xbc, 0xb6, 0xda, 0x21, 0x10, 0xff, 0xf3, 0xd2,
	0xcd, 0x0c, 0x13, 0xec, 0x5f, 0x97, 0x44, 0x17, 0xc4, 0xa7, 0x7e, 0x3d, 0x64, 0x5d, 0x19, 0x73,
	0x60, 0x81, 0x4f, 0xdc, 0x22, 0x2a, 0x90, 0x88, 0x46, 0xee, 0xb8, 0x14, 0xde, 0x5e, 0x0b, 0xdb,
	0xe0, 0x32, 0x3a, 0x0a, 0x49, 0x06, 0x24, 0x5c, 0xc2, 0xd3, 0xac, 0x62, 0x91, 0x95, 0xe4, 0x79,
	0xe7, 0xc8, 0x37, 0x6d, 0x8d, 0xd5, 0x4e, 0xa9, 0x6c, 0x56, 0xf4, 0xea, 0x65, 0x7a, 0xae, 0x08,
	0xba, 0x78, 0x25, 0x2e, 0x1c, 0xa6, 0xb4, 0xc6, 0xe8, 0xdd, 0x74, 0x1f, 0x4b, 0xbd, 0x8b, 0x8a,
	0x70, 0x3e, 0xb5, 0x66, 0x48, 0x03, 0xf6, 0x0e, 0x61, 0x35, 0x57, 0xb9, 0x86, 0xc1, 0x1d, 0x9e,
	0xe1, 0xf8, 0x98, 0x11, 0x69, 0xd9, 0x8e, 0x94, 0x9b, 0x1e, 0x87, 0xe9, 0xce, 0x55, 0x28, 0xdf,
	0x8c, 0xa1, 0x89, 0x0d, 0xbf, 0xe6, 0x42, 0x68, 0x41, 0x99, 0x2d, 0x0f, 0xb0, 0x54, 0xbb, 0x16,
}

// P3.2: the chapter's examples.
func TestSubExamples(t *testing.T) {
	check(t, "Sub(0)", field.Sub(0), 0x63)
	check(t, "Sub(1)", field.Sub(1), 0x7C)
	check(t, "Sub(0x53)", field.Sub(0x53), 0xED)
	check(t, "Unsub(0x63)", field.Unsub(0x63), 0)
	check(t, "Unsub(0)", field.Unsub(0), 0x52)
}

// P3.2: Sub and Unsub of every element, by the chapter's words and by the written table.
func TestSubOfAll(t *testing.T) {
	var hits [256]int
	every(func(a byte) {
		inverse, _ := definedInv(a)
		sub := field.Sub(a)
		check(t, fmt.Sprintf("Sub(%#x)", a), sub, affine(inverse))
		check(t, fmt.Sprintf("Sub(%#x) by the table", a), sub, box[a])
		check(t, fmt.Sprintf("Unsub(%#x)", box[a]), field.Unsub(box[a]), a)
		hits[sub]++
	})
	for b, n := range hits {
		if n != 1 {
			t.Errorf("%d elements have the substitute %#x", n, b)
		}
	}
}

// P3.2: there and back, and back and there; no element stays, and none has all its bits turned.
func TestSubThereAndBack(t *testing.T) {
	every(func(a byte) {
		check(t, fmt.Sprintf("Unsub of Sub(%#x)", a), field.Unsub(field.Sub(a)), a)
		check(t, fmt.Sprintf("Sub of Unsub(%#x)", a), field.Sub(field.Unsub(a)), a)
		if s := field.Sub(a); s == a || s == ^a {
			t.Errorf("Sub(%#x) is %#x", a, s)
		}
	})
}

// P3.3: known columns: the chapter's example and FIPS 197's.
func TestKnownColumns(t *testing.T) {
	for _, c := range [][2][4]byte{
		{{0xDB, 0x13, 0x53, 0x45}, {0x8E, 0x4D, 0xA1, 0xBC}},
		{{0xF2, 0x0A, 0x22, 0x5C}, {0x9F, 0xDC, 0x58, 0x9D}},
		{{0x2D, 0x26, 0x31, 0x4C}, {0x4D, 0x7E, 0xBD, 0xF8}},
		{{0xD4, 0xD4, 0xD4, 0xD5}, {0xD5, 0xD5, 0xD7, 0xD6}},
		{{0xD4, 0xBF, 0x5D, 0x30}, {0x04, 0x66, 0x81, 0xE5}},
		{{0xE0, 0xB4, 0x52, 0xAE}, {0xE0, 0xCB, 0x19, 0x9A}},
		{{1, 0, 0, 0}, {2, 1, 1, 3}},
		{{0, 1, 0, 0}, {3, 2, 1, 1}},
		{{0, 0, 1, 0}, {1, 3, 2, 1}},
		{{0, 0, 0, 1}, {1, 1, 3, 2}},
		{{14, 9, 13, 11}, {1, 0, 0, 0}},
		{{11, 14, 9, 13}, {0, 1, 0, 0}},
		{{13, 11, 14, 9}, {0, 0, 1, 0}},
		{{9, 13, 11, 14}, {0, 0, 0, 1}},
		{{0xC6, 0xC6, 0xC6, 0xC6}, {0xC6, 0xC6, 0xC6, 0xC6}},
		{{}, {}},
	} {
		if got := field.Column(c[0]); got != c[1] {
			t.Errorf("Column(%x): %x, not %x", c[0], got, c[1])
		}
		if got := field.Uncolumn(c[1]); got != c[0] {
			t.Errorf("Uncolumn(%x): %x, not %x", c[1], got, c[0])
		}
	}
}

// P3.3: both by the chapter's words, and each takes back what the other does.
func TestColumns(t *testing.T) {
	for _, c := range someColumns() {
		mixed, plain := field.Column(c), field.Uncolumn(c)
		if want := definedColumn(mixing, c); mixed != want {
			t.Fatalf("Column(%x): %x, not %x", c, mixed, want)
		}
		if want := definedColumn(unmixing, c); plain != want {
			t.Fatalf("Uncolumn(%x): %x, not %x", c, plain, want)
		}
		if got := field.Uncolumn(mixed); got != c {
			t.Fatalf("Uncolumn of Column(%x): %x", c, got)
		}
		if got := field.Column(plain); got != c {
			t.Fatalf("Column of Uncolumn(%x): %x", c, got)
		}
	}
}

// P3.3: a column of a sum is the sum of the columns; so the columns with one byte speak for all.
func TestColumnsOfSums(t *testing.T) {
	sum := func(a, b [4]byte) [4]byte {
		for i := range a {
			a[i] = field.Add(a[i], b[i])
		}
		return a
	}
	columns := someColumns()
	for i, a := range columns[1:] {
		b := columns[i]
		if field.Column(sum(a, b)) != sum(field.Column(a), field.Column(b)) {
			t.Fatalf("Column of %x and %x", a, b)
		}
		if field.Uncolumn(sum(a, b)) != sum(field.Uncolumn(a), field.Uncolumn(b)) {
			t.Fatalf("Uncolumn of %x and %x", a, b)
		}
	}
}

// P3.4: all pairs: no order, what leaves an element as it is, and no product of two that aren't 0 is 0.
func TestFieldOfPairs(t *testing.T) {
	everyPair(func(a, b byte) {
		if field.Add(a, b) != field.Add(b, a) || field.Mul(a, b) != field.Mul(b, a) {
			t.Fatalf("%#x and %#x hang on the order", a, b)
		}
		if (field.Mul(a, b) == 0) != (a == 0 || b == 0) {
			t.Fatalf("Mul(%#x, %#x) is %#x", a, b, field.Mul(a, b))
		}
		if field.Add(field.Add(a, b), b) != a {
			t.Fatalf("%#x isn't its own negative", b)
		}
	})
	every(func(a byte) {
		check(t, "the sum with 0", field.Add(a, 0), a)
		check(t, "the product with 1", field.Mul(a, 1), a)
		check(t, "the product with 0", field.Mul(a, 0), 0)
	})
}

// P3.4: all triples: no bracketing, and the product of a sum is the sum of the products.
func TestFieldOfTriples(t *testing.T) {
	var product [256][256]byte
	everyPair(func(a, b byte) { product[a][b] = field.Mul(a, b) })
	everyPair(func(a, b byte) {
		every(func(c byte) {
			if field.Add(field.Add(a, b), c) != field.Add(a, field.Add(b, c)) {
				t.Fatalf("the sum of %#x, %#x, %#x hangs on the bracketing", a, b, c)
			}
			if product[product[a][b]][c] != product[a][product[b][c]] {
				t.Fatalf("the product of %#x, %#x, %#x hangs on the bracketing", a, b, c)
			}
			if product[a][field.Add(b, c)] != field.Add(product[a][b], product[a][c]) {
				t.Fatalf("%#x times the sum of %#x and %#x", a, b, c)
			}
		})
	})
}

// P3.4: the powers of 3 are all elements but 0, each once in 255.
func TestPowersOf3(t *testing.T) {
	var hits [256]int
	power := byte(1)
	for n := range 255 {
		check(t, fmt.Sprintf("Pow(3, %d)", n), field.Pow(3, n), power)
		hits[power]++
		power = field.Mul(power, 3)
	}
	for a, n := range hits {
		if a == 0 && n != 0 || a != 0 && n != 1 {
			t.Errorf("%d powers of 3 are %#x", n, a)
		}
	}
}

// P3.1, P3.2, P3.3: AES put together from the layer's functions is the library's.
func TestBlockOfTheLibrary(t *testing.T) {
	source := rand.New(rand.NewSource(197))
	for range 100 {
		var key, block, want [16]byte
		source.Read(key[:])
		source.Read(block[:])
		c, err := aes.NewCipher(key[:])
		if err != nil {
			t.Fatal(err)
		}
		c.Encrypt(want[:], block[:])
		if got := encrypted(key, block); got != want {
			t.Fatalf("key %x, block %x: %x, not %x", key, block, got, want)
		}
	}
}

// encrypted: AES-128 in its plainest form.
func encrypted(key, block [16]byte) [16]byte {
	factor := byte(1)
	for turn := 0; ; turn++ {
		for i := range block {
			block[i] = field.Add(block[i], key[i])
		}
		if turn == 10 {
			return block
		}
		var rows [16]byte
		for i := range block {
			rows[i] = field.Sub(block[(i+i%4*4)%16])
		}
		block = rows
		for i := 0; i < 16 && turn < 9; i += 4 {
			mixed := field.Column([4]byte(rows[i:]))
			copy(block[i:], mixed[:])
		}
		for i := range key {
			if i < 4 {
				key[i] ^= field.Sub(key[12+(i+1)%4])
			} else {
				key[i] ^= key[i-4]
			}
			if i == 0 {
				key[i] ^= factor
			}
		}
		factor = field.Mul(factor, 2)
	}
}

// Rule 5: a column that is handed in stays as it is.
func TestHandedInStays(t *testing.T) {
	c := [4]byte{0xDB, 0x13, 0x53, 0x45}
	field.Column(c)
	field.Uncolumn(c)
	if c != [4]byte{0xDB, 0x13, 0x53, 0x45} {
		t.Errorf("the column became %x", c)
	}
}

// Rule 6: nothing is kept from call to call: many at one time answer as one alone does.
func TestManyAtOneTime(t *testing.T) {
	var group sync.WaitGroup
	for worker := range 8 {
		group.Go(func() {
			every(func(a byte) {
				a += byte(worker * 32)
				if field.Sub(a) != box[a] || field.Unsub(box[a]) != a || field.Pow(a, -1) != field.Inv(a) {
					t.Errorf("worker %d, element %#x", worker, a)
				}
			})
		})
	}
	group.Wait()
}

func ExampleMul() {
	fmt.Printf("%#x\n", field.Mul(0x57, 0x83))
	// Output: 0xc1
}

func ExampleColumn() {
	mixed := field.Column([4]byte{0xDB, 0x13, 0x53, 0x45})
	fmt.Printf("%x %x\n", mixed, field.Uncolumn(mixed))
	// Output: 8e4da1bc db135345
}
