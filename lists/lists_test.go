package lists

import (
	"slices"
	"strconv"
	"strings"
	"testing"
)

func TestAll(t *testing.T) {
	asked := ""
	small := func(s string) bool {
		asked += s
		return s < "c"
	}
	for text, want := range map[string]bool{"": true, "a b": true, "a b c": false, "c": false} {
		if got := All(strings.Fields(text), small); got != want {
			t.Errorf("All(%s) = %t", text, got)
		}
	}
	if asked = ""; All(strings.Fields("a d b"), small) || asked != "ad" {
		t.Errorf("All asks %s", asked)
	}
}

func TestEach(t *testing.T) {
	if l := Each([]int{3, 1, 3}, strconv.Itoa); strings.Join(l, " ") != "3 1 3" {
		t.Errorf("Each = %v", l)
	}
	if l := Each([]int{}, strconv.Itoa); l != nil {
		t.Errorf("Each of nothing = %v", l)
	}
}

func TestFirsts(t *testing.T) {
	first := func(s string) string { return s[:1] }
	for text, want := range map[string]string{"": "", "a b": "a b", "ab aa b ac ba c": "ab b c", "b a b": "b a"} {
		l := strings.Fields(text)
		if got := strings.Join(Firsts(l, first), " "); got != want {
			t.Errorf("Firsts(%s) = %s; expected %s", text, got, want)
		}
		if got := Distinct(l, first); got != (text == want) {
			t.Errorf("Distinct(%s) = %t", text, got)
		}
		if !slices.Equal(l, strings.Fields(text)) {
			t.Errorf("Firsts(%s) changes its argument to %v", text, l)
		}
	}
	l := []string{"a", "b"}
	if Firsts(l, first)[0] = "c"; l[0] != "a" {
		t.Errorf("Firsts shares memory")
	}
}

func TestItself(t *testing.T) {
	for _, name := range []string{"", "a", "<b>@c"} {
		if got := Itself(name); got != name {
			t.Errorf("Itself(%q) = %q", name, got)
		}
	}
}
