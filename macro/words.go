package macro

import "skerry/api"

// isName tells whether a token is a name.
func isName(t api.Token, name string) bool {
	return t.Kind == api.TkName && t.Text == name
}

// isSign tells whether a token is a sign.
func isSign(t api.Token, sign string) bool {
	return t.Kind == api.TkSign && t.Text == sign
}

// endings tells for each index whether the first brace from there on opens a group of braces whose last token is the name end.
func endings(l []api.Token) []bool {
	ends := make([]bool, len(l)+1)
	var open []int
	for i, t := range l {
		switch {
		case isSign(t, "{"):
			open = append(open, i)
		case isSign(t, "}") && len(open) > 0:
			last := len(open) - 1
			ends[open[last]] = isName(l[i-1], "end")
			open = open[:last]
		}
	}
	for i := len(l) - 1; i >= 0; i-- {
		if !isSign(l[i], "{") && !isSign(l[i], "}") {
			ends[i] = ends[i+1]
		}
	}
	return ends
}
