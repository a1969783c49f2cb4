package cert

import (
	"strings"

	"rafter/api"
	"rafter/whole"
)

// reader reads a certificate line by line: the entries so far, and the number of the line at which it is.
type reader struct {
	points []api.CertPoint
	line   int
}

// demand throws ErrCert at this line, if what is asked for is not so.
func (r *reader) demand(so bool) { demand(so, api.ErrCert, r.line) }

// take reads the words of a line.
func (r *reader) take(words []string) {
	rest := words[1:]
	switch words[0] {
	case "point":
		r.demand(len(rest) == 0)
		r.points = append(r.points, api.CertPoint{})
	case "row":
		x := r.entry()
		r.demand(len(x.Samples) == 0)
		x.Rows = append(x.Rows, r.numbers(rest))
	case "sample":
		x := r.entry()
		x.Samples = append(x.Samples, r.sample(rest))
	default:
		r.demand(false)
	}
}

// entry answers the entry to which a row or a sample belongs.
func (r *reader) entry() *api.CertPoint {
	r.demand(len(r.points) > 0)
	return &r.points[len(r.points)-1]
}

// sample reads how a sample came, and its state.
func (r *reader) sample(words []string) api.Sample {
	r.demand(len(words) >= 4)
	return api.Sample{
		Point: r.intOf(words[0]),
		Index: r.intOf(words[1]),
		Edge:  r.intOf(words[2]),
		Value: r.intOf(words[3]),
		State: r.numbers(words[4:]),
	}
}

// numbers reads whole numbers of any length.
func (r *reader) numbers(words []string) []api.Whole {
	var out []api.Whole
	for _, w := range words {
		out = append(out, r.number(w))
	}
	return out
}

// intOf reads a number that is an int.
func (r *reader) intOf(word string) int {
	out, ok := whole.Int(r.number(word))
	r.demand(ok)
	return out
}

// number reads a whole number that is written as Print writes it.
func (r *reader) number(word string) api.Whole {
	r.demand(plain(word))
	if digits, below := strings.CutPrefix(word, "-"); below {
		return whole.Neg(natural(digits))
	}
	return natural(word)
}

// wordsOf answers what stands between the blanks of a line. Where two stand together, or one at an end, there is a word without a glyph: it is no word of a certificate.
func wordsOf(line string) []string {
	var out []string
	from := 0
	for at, glyph := range line {
		if glyph == ' ' {
			out = append(out, line[from:at])
			from = at + 1
		}
	}
	return append(out, line[from:])
}

// plain says whether a word is the one text of a number: decimal digits without noughts ahead, a `-` ahead of those below 0.
func plain(word string) bool {
	digits := strings.TrimPrefix(word, "-")
	for _, glyph := range digits {
		if glyph < '0' || glyph > '9' {
			return false
		}
	}
	return word == "0" || digits != "" && digits[0] != '0'
}

// natural answers the number of decimal digits. The layer below reads MaxDigits of them at most: a longer one is put together of pieces.
func natural(digits string) api.Whole {
	if len(digits) <= api.MaxDigits {
		out, _ := whole.Parse(digits) // what is plain is never refused
		return out
	}
	const piece = api.MaxDigits - 1
	cut := len(digits) - piece
	above, _ := whole.Parse("1" + strings.Repeat("0", piece))
	return whole.Add(whole.Mul(natural(digits[:cut]), above), natural(digits[cut:]))
}
