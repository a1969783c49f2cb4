package affine

import (
	"strings"

	"rafter/api"
	"rafter/whole"
)

// Print answers a row as a text; ErrArg, if Names refuses vars, or the row has not one number more than vars.
func Print(row []api.Whole, vars []string) (string, api.Errno) {
	if Names(vars) != api.OK || len(row) != len(vars)+1 {
		return "", api.ErrArg
	}
	left := ""
	for i, name := range vars {
		left += termText(row[i], name, left == "")
	}
	if left == "" {
		left = "0"
	}
	return left + " = " + whole.Text(row[len(vars)]), api.OK
}

// termText answers a factor times a variable, with its sign as it stands behind other terms, or as the first one; nothing, if the factor is 0.
func termText(factor api.Whole, name string, first bool) string {
	sign := whole.Sign(factor)
	if sign == 0 {
		return ""
	}
	var out strings.Builder
	switch {
	case first && sign < 0:
		out.WriteString("-")
	case first:
	case sign < 0:
		out.WriteString(" - ")
	default:
		out.WriteString(" + ")
	}
	size := api.Whole{Mag: factor.Mag}
	if whole.Cmp(size, whole.Of(1)) != 0 {
		out.WriteString(whole.Text(size))
		out.WriteString("*")
	}
	out.WriteString(name)
	return out.String()
}
