package glyph_test

import (
	"fmt"
	"slices"
	"strings"
	"sync"
	"testing"
	"unsafe"

	"rafter/api"
	"rafter/glyph"
)

// borrowed answers a text that lies in b, so that it can be written over when a call has answered.
func borrowed(b []byte) string { return unsafe.String(unsafe.SliceData(b), len(b)) }

// wipe writes over bytes.
func wipe(b []byte) {
	for i := range b {
		b[i] = '~'
	}
}

// scribble writes over a list and the room behind it.
func scribble[T any](l []T, with T) {
	l = l[:cap(l)]
	for i := range l {
		l[i] = with
	}
}

func TestTextNotKept(t *testing.T) { // R3: what is answered lies in no text that was handed in
	for _, s := range texts() {
		b := []byte(s)
		tokens, e, p := glyph.Scan(borrowed(b))
		list, e2, p2 := glyph.Glyphs(borrowed(b))
		if string(b) != s {
			t.Fatalf("R3: %q is changed", s)
		}
		wipe(b)
		wantTokens, wantE, wantP := tokensOf(s)
		wantList, wantE2, wantP2 := glyphsOf(s)
		if e != wantE || p != wantP || !slices.Equal(tokens, wantTokens) {
			t.Fatalf("R3: Scan(%q), when the text was written on: %v", s, tokens)
		}
		if e2 != wantE2 || p2 != wantP2 || !slices.Equal(list, wantList) {
			t.Fatalf("R3: Glyphs(%q), when the text was written on: %v", s, list)
		}
	}
}

func TestTokensNotKept(t *testing.T) { // R3: Join
	for n := range 4 {
		b := []byte("alpha")
		l := make([]api.Token, n, n+3)
		scribble(l, api.Token{Kind: 5, Text: borrowed(b), At: at(1, 2, 3, 4)})
		was := strings.TrimSuffix(strings.Repeat("alpha ", n), " ")
		got := glyph.Join(l)
		for _, token := range l[:cap(l)] {
			if token != (api.Token{Kind: 5, Text: "alpha", At: at(1, 2, 3, 4)}) {
				t.Fatal("R3: Join changes what is handed in")
			}
		}
		wipe(b)
		scribble(l, api.Token{})
		if got != was {
			t.Errorf("R3: Join of %d, when they were written on: %q", n, got)
		}
	}
}

func TestAnswersStay(t *testing.T) { // R3, R4: no answer is touched by later calls, and none touches them
	for _, s := range texts() {
		tokens, _, _ := glyph.Scan(s)
		list, _, _ := glyph.Glyphs(s)
		kept, keptList := slices.Clone(tokens), slices.Clone(list)
		for _, other := range []string{s, "y := 4", "z\xff", "# \u03b1"} {
			more, _, _ := glyph.Scan(other)
			moreList, _, _ := glyph.Glyphs(other)
			scribble(more, api.Token{Kind: 9, Text: "no"})
			scribble(moreList, api.Glyph{Code: -7})
		}
		if !slices.Equal(tokens, kept) || !slices.Equal(list, keptList) {
			t.Fatalf("R4: the answers of %q changed", s)
		}
		sameTokens(t, s)
		sameGlyphs(t, s)
	}
}

func TestSideBySide(t *testing.T) { // R4: calls made at the same time have nothing in common
	var group sync.WaitGroup
	for range 4 {
		group.Go(func() {
			for _, s := range texts() {
				tokens, e, p := glyph.Scan(s)
				list, e2, p2 := glyph.Glyphs(s)
				wantTokens, wantE, wantP := tokensOf(s)
				wantList, wantE2, wantP2 := glyphsOf(s)
				if fmt.Sprint(tokens, e, p, list, e2, p2) != fmt.Sprint(wantTokens, wantE, wantP, wantList, wantE2, wantP2) {
					t.Errorf("R4: %q side by side: %v, %v at %v", s, tokens, e, p)
				}
			}
		})
	}
	group.Wait()
}

func TestNothingBesideErrors(t *testing.T) { // R2
	for _, s := range texts() {
		if l, e, p := glyph.Scan(s); (e != api.OK) != (len(l) == 0) || (e == api.OK) != (p == api.Place{}) {
			t.Fatalf("R2: Scan(%q) = %v, %v at %v", s, l, e, p)
		}
		if l, e, p := glyph.Glyphs(s); e != api.OK && len(l) > 0 || (e == api.OK) != (p == api.Place{}) {
			t.Fatalf("R2: Glyphs(%q) = %v, %v at %v", s, l, e, p)
		}
	}
}

func FuzzTexts(f *testing.F) { // P4.3, P4.4: run as a test, it goes through the seeds
	for _, s := range texts() {
		f.Add(s)
	}
	f.Fuzz(func(t *testing.T, s string) {
		sameGlyphs(t, s)
		sameTokens(t, s)
	})
}
