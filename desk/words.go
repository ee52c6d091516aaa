package desk

import (
	"strconv"
	"strings"

	"churn/api"
	"churn/server"
)

const (
	digits   = 19      // a number has no more of them
	greatest = 1 << 62 // nor is it greater
)

// dash is the word that stands for no bytes, and for a script without numbers.
const dash = "-"

// wordsOf: the words of a line. A blank alone parts them: any other byte, a tab too, belongs to a word.
func wordsOf(line string) []string {
	return strings.FieldsFunc(line, func(r rune) bool { return r == ' ' })
}

func numberOf(word string) int64 {
	n, err := strconv.ParseUint(word, 10, 64)
	demand(err == nil && len(word) <= digits && n <= greatest, api.ErrNumber)
	return int64(n)
}

func bytesOf(word string) []byte {
	if word == dash {
		return nil
	}
	demand(len(word)%2 == 0, api.ErrNumber)
	p := make([]byte, len(word)/2)
	for i := range p {
		b, err := strconv.ParseUint(word[2*i:2*i+2], 16, 8)
		demand(err == nil, api.ErrNumber)
		p[i] = byte(b)
	}
	return p
}

func nonceOf(word string) [api.NonceSize]byte {
	p := bytesOf(word)
	demand(len(p) == api.NonceSize, api.ErrNumber)
	return [api.NonceSize]byte(p)
}

func scriptOf(word string) []int {
	if word == dash {
		return nil
	}
	var script []int
	for piece := range strings.SplitSeq(word, ",") {
		script = append(script, int(numberOf(piece)))
	}
	return script
}

func engineOf(word string) int {
	switch word {
	case "mix":
		return server.ByMix
	case "crew":
		return server.ByCrew
	case "line":
		return server.ByLine
	}
	panic(api.ErrWord)
}

// each: what each of the words stands for.
func each[T any](words []string, of func(string) T) []T {
	var list []T
	for _, word := range words {
		list = append(list, of(word))
	}
	return list
}

// wordOf: the word that stands for these bytes.
func wordOf(p []byte) string {
	if len(p) == 0 {
		return dash
	}
	const small = "0123456789abcdef"
	var word strings.Builder
	for _, b := range p {
		word.WriteByte(small[b>>4])
		word.WriteByte(small[b&15])
	}
	return word.String()
}
