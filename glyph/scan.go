package glyph

import (
	"slices"
	"strings"

	"rafter/api"
	"rafter/limbs"
)

// scanner goes from left to right through the glyphs of a text that stand ahead of its end, or of the first byte that is no part of one.
type scanner struct {
	text   string
	glyphs []api.Glyph
	next   int
	end    api.Place
}

// Scan answers the tokens of a text, the end as the last one; or the first error that going from left to right meets, with its place. ErrTooBig and the zero Place, if it has more than MaxText bytes.
func Scan(text string) ([]api.Token, api.Errno, api.Place) {
	if len(text) > api.MaxText {
		return nil, api.ErrTooBig, api.Place{}
	}
	s := &scanner{text: text}
	s.glyphs, s.end = sound(text)
	var tokens []api.Token
	for s.skip(); s.next < len(s.glyphs); s.skip() {
		at := s.place()
		token, e := s.token()
		if e != api.OK {
			return nil, e, at
		}
		token.At = at
		tokens = append(tokens, token)
	}
	if s.end.Byte < len(text) {
		return nil, api.ErrRune, s.end
	}
	return append(tokens, api.Token{Kind: api.TokenEnd, At: s.end}), api.OK, api.Place{}
}

// skip goes past blanks and comments.
func (s *scanner) skip() {
	comment := false
	for ; s.next < len(s.glyphs); s.next++ {
		g := s.glyphs[s.next]
		switch {
		case comment:
			comment = g.Code != newLine
		case g.Class == api.ClassHash:
			comment = true
		case g.Class != api.ClassBlank:
			return
		}
	}
}

// place answers where the scanner stands.
func (s *scanner) place() api.Place {
	if s.next < len(s.glyphs) {
		return s.glyphs[s.next].At
	}
	return s.end
}

// token goes past the token that begins at the next glyph, and answers it without its place. Every error of it is told at that glyph.
func (s *scanner) token() (api.Token, api.Errno) {
	switch s.glyphs[s.next].Class {
	case api.ClassLetter:
		return s.name()
	case api.ClassDigit:
		return s.number()
	case api.ClassSign:
		return s.sign()
	}
	return api.Token{}, api.ErrSign
}

// name goes past a name; ErrName, if it has more than MaxName glyphs.
func (s *scanner) name() (api.Token, api.Errno) {
	text, count := s.run(api.ClassLetter, api.ClassDigit, api.ClassMark)
	if count > api.MaxName {
		return api.Token{}, api.ErrName
	}
	// A copy: a piece of the text would keep all of it.
	return api.Token{Kind: api.TokenName, Text: strings.Clone(text)}, api.OK
}

// number goes past a number; ErrTooBig, if it has more than MaxLimbs limbs. MaxText glyphs are fewer than MaxDigits, so Parse takes every run of digits.
func (s *scanner) number() (api.Token, api.Errno) {
	text, _ := s.run(api.ClassDigit)
	value, e := limbs.Parse(text)
	if e != api.OK || len(value) > api.MaxLimbs {
		return api.Token{}, api.ErrTooBig
	}
	return api.Token{Kind: api.TokenNumber, Text: limbs.Text(value)}, api.OK
}

// run goes past the glyphs of these classes, as many as there are, and answers them as they stand in the text, and how many they are.
func (s *scanner) run(classes ...int) (text string, count int) {
	from := s.place()
	for s.next < len(s.glyphs) && slices.Contains(classes, s.glyphs[s.next].Class) {
		s.next++
	}
	to := s.place()
	return s.text[from.Byte:to.Byte], to.Glyph - from.Glyph
}

// sign goes past a sign; ErrSign at a `:` or `!` that has no `=` right behind it.
func (s *scanner) sign() (api.Token, api.Errno) {
	code := Fold(s.glyphs[s.next].Code)
	s.next++
	text := string(rune(code))
	switch code {
	case becomesSign:
		text = ":="
	case unlikeSign:
		text = "!="
	case ':', '!':
		if s.next == len(s.glyphs) || s.glyphs[s.next].Code != '=' {
			return api.Token{}, api.ErrSign
		}
		s.next++
		text += "="
	}
	return api.Token{Kind: api.TokenSign, Text: text}, api.OK
}
