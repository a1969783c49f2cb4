package glyph

import (
	"strings"

	"rafter/api"
)

// Name says whether s is a name's text, and nothing else.
func Name(s string) bool {
	tokens, e, _ := Scan(s)
	return e == api.OK && tokens[0].Kind == api.TokenName && tokens[0].Text == s
}

// Join answers the Texts of l, with one blank between two. A builder, and not strings.Join, which answers a single text as it was handed in.
func Join(l []api.Token) string {
	var out strings.Builder
	for i, token := range l {
		if i > 0 {
			out.WriteByte(' ')
		}
		out.WriteString(token.Text)
	}
	return out.String()
}
