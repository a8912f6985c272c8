package c3

import (
	"slices"
	"strings"
	"testing"

	"skerry/api"
)

// P7.1
func TestAncestors(t *testing.T) {
	for _, x := range []struct{ text, name, want string }{
		{example, "o", "o"}, {example, "a", "o a"}, {example, "c", "o a b c"}, {example, "d", "o a b d"}, {example, "e", "o a b c d e"}, {example, "x", "o x"}, {example, "y", "o a x y"},
		{"a; b; c", "b", "b"}, {"a; b; c; d c a", "d", "a c d"}, {"a; b a; c; d c; e d b", "e", "a b c d e"}, {"a; b a; c; d c; e d b", "d", "c d"},
		{"a; b a; c a b; d c", "d", "a b c d"},
		{ring, "w", "a b c x y z w"}, {ring, "y", "b c y"},
	} {
		if l, e := Ancestors(heirs(x.text), x.name); e != api.OK || !slices.Equal(l, strings.Fields(x.want)) {
			t.Errorf("Ancestors(%s; %s) = %v, %d; expected %s", x.text, x.name, l, e, x.want)
		}
	}
	for _, g := range [][]api.Heir{tower(120, 8), tower(120, 1)} {
		if l, e := Ancestors(g, "n119"); e != api.OK || !slices.Equal(l, numbered(0, 120)) {
			t.Errorf("Ancestors of the last class of a tower = %v, %d", l, e)
		}
	}
}

// P7.1
func TestBelow(t *testing.T) {
	for _, x := range []struct{ text, above string }{
		{"o", "o"}, {"a", "o a"}, {"c", "o a b c"}, {"e", "o a b c d e"}, {"y", "o a x y"}, {"z", ""}, {"", ""},
	} {
		for _, b := range append(strings.Fields("o a b c d e x y z"), "") {
			want := b != "" && slices.Contains(strings.Fields(x.above), b)
			if got := Below(heirs(example), x.text, b); got != want {
				t.Errorf("Below(%q, %q) = %t", x.text, b, got)
			}
		}
	}
	for what, x := range wrong() {
		if Below(x.heirs, "o", "o") || Below(x.heirs, "a", "o") || Below(x.heirs, "", "") {
			t.Errorf("Below in a hierarchy with %s = true", what)
		}
	}
}

// P7.2
func TestMerge(t *testing.T) {
	for _, x := range []struct {
		lists, want string
		ok          bool
	}{
		{"", "", true}, {"()", "", true}, {"()()()", "", true}, {"(a)", "a", true}, {"(a b c)", "a b c", true}, {"(c a b)", "c a b", true},
		{"()(a)()(b)()", "a b", true}, {"(a)(a)(a)", "a", true}, {"(a b)(a b)", "a b", true}, {"(a b)(c d)", "a b c d", true}, {"(c d)(a b)", "c d a b", true},
		{"(a o)(b o)(a b)", "a b o", true}, {"(a o)(b o)(b a)", "b a o", true}, {"(a o)(b o)", "a b o", true}, {"(o)(a o)(b a)", "b a o", true},
		{"(a c)(b c)(a b)", "a b c", true}, {"(a x b)(x y)(y b)", "a x y b", true}, {"(a x b)(y b)", "a x y b", true}, {"(b)(a b)", "a b", true}, {"(c)(b c)(a b)(z)", "a b c z", true}, {"(b c)(a b)(z)", "a b c z", true}, {"(c)(d)(b c)(a b)", "d a b c", true},
		{"(a b)(b a)", "", false}, {"(x a b)(x b a)", "", false}, {"(a)(b)(c d)(d c)", "", false}, {"(a b)(b c)(c a)", "", false}, {"(x a b)(y b c)(z c a)", "", false}, {"(x y)(a b)(b c)(c a)(d)", "", false}, {"(a b c d)(d a)", "", false},
		{"(a a)", "", false}, {"(a b a)", "", false}, {"(b a a)", "", false}, {"(x)(a b a)", "", false}, {"(a b a)(c)", "", false}, {"(a b)(b b)", "", false}, {"(x y z x)()", "", false},
	} {
		l := rows(x.lists)
		if got, ok := Merge(l); ok != x.ok || !slices.Equal(got, strings.Fields(x.want)) {
			t.Errorf("Merge of %s = %v, %t; expected %s, %t", x.lists, got, ok, x.want, x.ok)
		}
	}
	if l, ok := Merge(nil); l != nil || !ok {
		t.Errorf("Merge of no lists = %v, %t", l, ok)
	}
	if l, ok := Merge([][]string{{"", " "}, {"\xff", ""}}); !slices.Equal(l, []string{"\xff", "", " "}) || !ok {
		t.Errorf("Merge of lists of odd names = %q, %t", l, ok)
	}
}

// P7.2
func TestMergeLimits(t *testing.T) {
	single := func(n, length int) (l [][]string) {
		for i := range n {
			l = append(l, numbered(i*length, length))
		}
		return l
	}
	for _, x := range []struct {
		what string
		l    [][]string
		want []string
		ok   bool
	}{
		{"20 lists", single(20, 1), numbered(0, 20), true}, {"21 lists", single(21, 1), nil, false}, {"20 empty lists", single(20, 0), nil, true}, {"21 empty lists", single(21, 0), nil, false}, {"21 equal lists", slices.Repeat(rows("(a b)"), 21), nil, false},
		{"120 names", single(1, 120), numbered(0, 120), true}, {"121 names", single(1, 121), nil, false}, {"20 lists of 120 names", single(20, 120), numbered(0, 2400), true}, {"20 equal lists of 120 names", slices.Repeat(single(1, 120), 20), numbered(0, 120), true}, {"121 names in the last list", append(single(2, 2), numbered(4, 121)), nil, false}, {"121 names in the first list", append([][]string{numbered(4, 121)}, single(2, 2)...), nil, false}, {"121 times the same", [][]string{slices.Repeat([]string{"a"}, 121)}, nil, false},
		{"21 lists that cannot be merged", append(single(19, 1), rows("(a b)(b a)")...), nil, false}, {"names in the other order", append(single(1, 120), rows("(n119)(n60 n61 n119)")...), numbered(0, 120), true}, {"a cycle at the end", append(single(1, 120), rows("(n119 n118)")...), nil, false}, {"a cycle over all", append(single(1, 120), rows("(n119 n0)")...), nil, false},
	} {
		if l, ok := Merge(x.l); ok != x.ok || !slices.Equal(l, x.want) {
			t.Errorf("Merge of %s = %v, %t", x.what, l, ok)
		}
	}
}

// P7.3
func TestLinearize(t *testing.T) {
	for _, x := range []struct {
		text, name, want string
		e                api.Errno
	}{
		{example, "o", "o", api.OK}, {example, "a", "a o", api.OK}, {example, "b", "b o", api.OK}, {example, "c", "c a b o", api.OK}, {example, "d", "d b a o", api.OK}, {example, "e", "", api.ErrC3}, {example, "x", "x o", api.OK}, {example, "y", "y a x o", api.OK},
		{"o; a o; b a; c b", "c", "c b a o", api.OK}, {"a; b; c", "c", "c", api.OK}, {"a; b; c a b", "c", "c a b", api.OK}, {"a; b; c b a", "c", "c b a", api.OK},
		{"a; b a; c b a", "c", "c b a", api.OK}, {"a; b a; c a b", "c", "", api.ErrC3}, {"a; b a; c a b; d c", "d", "", api.ErrC3}, {"a; b a; c a b; d a; e d c", "e", "", api.ErrC3}, {"a; b a; c a b; d a; e d c", "d", "d a", api.OK}, {"a; b a; c a b; d a; e d b", "e", "e d b a", api.OK},
		{ring, "w", "", api.ErrC3}, {ring, "z", "z c a", api.OK}, {"a; b; c; x a b; y b c; z a c; w x y z", "w", "w x y z a b c", api.OK}, {"a; b; c; x a b; y b c; z a c; w y x z", "w", "w y x z a b c", api.OK}, {"a; b; c; x a b; y b c; w x y", "w", "w x a y b c", api.OK},
		{"o; a o; b o; c o; d o; e o; k1 a b c; k2 d b e; k3 d a; z k1 k2 k3", "z", "z k1 k2 k3 d a b c e o", api.OK},
		{"o; f o; e o; d o; c d f; b d e; a b c", "a", "a b c d e f o", api.OK}, {"o; f o; e o; d o; c d f; b e d; a b c", "a", "a b e c d f o", api.OK},
		{"b; a; c a b; d c", "d", "d c a b", api.OK}, {"O; o O; O! o", "O!", "O! o O", api.OK},
	} {
		if l, e := Linearize(heirs(x.text), x.name); e != x.e || !slices.Equal(l, strings.Fields(x.want)) {
			t.Errorf("Linearize(%s; %s) = %v, %d; expected %s, %d", x.text, x.name, l, e, x.want, x.e)
		}
	}
}

// P7.3: nothing is linearized again and again
func TestTower(t *testing.T) {
	names := numbered(0, 120)
	slices.Reverse(names)
	for _, width := range []int{1, 2, 7, 8} {
		g := tower(120, width)
		if l, e := Linearize(g, "n119"); e != api.OK || !slices.Equal(l, names) {
			t.Errorf("Linearize of a tower that is %d wide = %v, %d", width, l, e)
		}
		all, at, e := All(g)
		if e != api.OK || at != 0 || len(all) != 120 {
			t.Fatalf("All of a tower that is %d wide = %d, %d, %d", width, len(all), at, e)
		}
		for i, l := range all {
			if !slices.Equal(l, names[119-i:]) {
				t.Errorf("All of a tower that is %d wide has %v at %d", width, l, i)
			}
		}
	}
	g := tower(120, 8)
	slices.Reverse(g[2].Supers)
	if l, e := Linearize(g, "n119"); e != api.ErrC3 || l != nil {
		t.Errorf("Linearize of a tower with a fault = %v, %d", l, e)
	}
	if all, at, e := All(g); e != api.ErrC3 || at != 2 || all != nil {
		t.Errorf("All of a tower with a fault = %v, %d, %d", all, at, e)
	}
}

// P7.3
func TestAll(t *testing.T) {
	for _, x := range []struct {
		text, want string
		at         int
		e          api.Errno
	}{
		{"", "", 0, api.OK}, {"a", "(a)", 0, api.OK}, {"a; b; c", "(a)(b)(c)", 0, api.OK}, {"o; a o; b o; c a b; d b a", "(o)(a o)(b o)(c a b o)(d b a o)", 0, api.OK}, {"b; a b; c b; d a c", "(b)(a b)(c b)(d a c b)", 0, api.OK},
		{example, "", 5, api.ErrC3}, {"a; b a; c a b", "", 2, api.ErrC3}, {"a; b a; c a b; d c; e a b", "", 2, api.ErrC3}, {"a; b a; d b; c a b; e c d; f d e", "", 3, api.ErrC3}, {ring, "", 6, api.ErrC3}, {ring + "; v w", "", 6, api.ErrC3},
	} {
		all, at, e := All(heirs(x.text))
		if e != x.e || at != x.at || !sameRows(all, rows(x.want)) {
			t.Errorf("All(%s) = %v, %d, %d; expected %s, %d, %d", x.text, all, at, e, x.want, x.at, x.e)
		}
	}
}

// P7.4
func TestVerify(t *testing.T) {
	for _, x := range []struct {
		name, list string
		want       api.Errno
	}{
		{"o", "o", api.OK}, {"a", "a o", api.OK}, {"c", "c a b o", api.OK}, {"d", "d b a o", api.OK}, {"y", "y a x o", api.OK},
		{"o", "", api.ErrOrder}, {"o", "a", api.ErrOrder}, {"o", "o o", api.ErrOrder}, {"c", "", api.ErrOrder}, {"c", "c", api.ErrOrder}, {"c", "c a b", api.ErrOrder}, {"c", "a b o", api.ErrOrder}, {"c", "c b a o", api.ErrOrder}, {"c", "c a b o o", api.ErrOrder}, {"c", "c c a b o", api.ErrOrder}, {"c", "c a b o x", api.ErrOrder}, {"c", "d b a o", api.ErrOrder}, {"c", "c a o b", api.ErrOrder}, {"c", "c a b O", api.ErrOrder}, {"c", "o b a c", api.ErrOrder},
		{"e", "e c d a b o", api.ErrC3}, {"e", "", api.ErrC3}, {"z", "z", api.ErrNone}, {"z", "", api.ErrNone}, {"", "", api.ErrNone},
	} {
		if e := Verify(heirs(example), x.name, strings.Fields(x.list)); e != x.want {
			t.Errorf("Verify(%s, %s) = %d; expected %d", x.name, x.list, e, x.want)
		}
	}
}

// P7.4: of what is monotonic and has the order of the superclasses only one list is the linearization
func TestVerifyOther(t *testing.T) {
	g := heirs("o; a o; b o; x o; y a x; z y b")
	if e := Verify(g, "z", strings.Fields("z y a x b o")); e != api.OK {
		t.Errorf("Verify of the linearization = %d", e)
	}
	for _, l := range []string{"z y a b x o", "z y b a x o"} {
		if e := Verify(g, "z", strings.Fields(l)); e != api.ErrOrder {
			t.Errorf("Verify of %s = %d", l, e)
		}
	}
}

// P7.4
func TestPrecedes(t *testing.T) {
	for _, x := range []struct {
		name, pair string
		want       bool
		e          api.Errno
	}{
		{"c", "a b", true, api.OK}, {"c", "b a", false, api.OK}, {"c", "c o", true, api.OK}, {"c", "o c", false, api.OK}, {"c", "c a", true, api.OK}, {"d", "a b", false, api.OK}, {"d", "b a", true, api.OK}, {"y", "a x", true, api.OK}, {"y", "x a", false, api.OK},
		{"c", "a a", false, api.OK}, {"c", "c c", false, api.OK}, {"c", "o o", false, api.OK}, {"o", "o o", false, api.OK},
		{"c", "a x", false, api.ErrArg}, {"c", "x a", false, api.ErrArg}, {"c", "d e", false, api.ErrArg}, {"c", "x x", false, api.ErrArg}, {"c", "a z", false, api.ErrArg}, {"c", "z a", false, api.ErrArg}, {"c", "z z", false, api.ErrArg}, {"a", "a c", false, api.ErrArg},
		{"e", "a b", false, api.ErrC3}, {"e", "z z", false, api.ErrC3}, {"z", "a b", false, api.ErrNone}, {"z", "z z", false, api.ErrNone},
	} {
		a, b, _ := strings.Cut(x.pair, " ")
		if got, e := Precedes(heirs(example), x.name, a, b); got != x.want || e != x.e {
			t.Errorf("Precedes(%s, %s) = %t, %d; expected %t, %d", x.name, x.pair, got, e, x.want, x.e)
		}
	}
	if got, e := Precedes(heirs(example), "c", "", "c"); got || e != api.ErrArg {
		t.Errorf("Precedes of an empty name = %t, %d", got, e)
	}
}

// P7.5
func TestLists(t *testing.T) {
	for _, x := range []struct {
		text, name, want string
		e                api.Errno
	}{
		{example, "o", "()", api.OK}, {example, "a", "(o)(o)", api.OK}, {example, "c", "(a o)(b o)(a b)", api.OK}, {example, "d", "(b o)(a o)(b a)", api.OK}, {example, "e", "(c a b o)(d b a o)(c d)", api.OK}, {example, "y", "(a o)(x o)(a x)", api.OK},
		{"a; b; c", "b", "()", api.OK}, {"a; b a; c a b", "c", "(a)(b a)(a b)", api.OK}, {"a; b a; c a b; d c", "d", "", api.ErrC3}, {"a; b a; c a b; d a; e d c", "e", "", api.ErrC3}, {"a; b a; c a b; d a; e c d", "e", "", api.ErrC3}, {"a; b a; c a b; d c; e d", "e", "", api.ErrC3}, {"a; b a; c a b; d b", "d", "(b a)(b)", api.OK},
		{ring, "w", "(x a b)(y b c)(z c a)(x y z)", api.OK},
	} {
		if all, e := Lists(heirs(x.text), x.name); e != x.e || !sameRows(all, rows(x.want)) {
			t.Errorf("Lists(%s; %s) = %v, %d; expected %s, %d", x.text, x.name, all, e, x.want, x.e)
		}
	}
	if all, e := Lists(tower(120, 8), "n119"); e != api.OK || len(all) != 9 || len(all[0]) != 119 || len(all[7]) != 112 || len(all[8]) != 8 {
		t.Errorf("Lists of the last class of a tower = %v, %d", all, e)
	}
}

// P7.5
func TestCycle(t *testing.T) {
	for _, x := range []struct {
		text, name string
		names      int // how many names a cycle has, if all of them have the same number
		e          api.Errno
	}{
		{example, "e", 2, api.OK}, {"a; b a; c a b", "c", 2, api.OK}, {ring, "w", 3, api.OK}, {"a; m; b; x a m b; y b a; w x y", "w", 0, api.OK}, {"a; m; n; b; x a m b; y b n a; w x y", "w", 0, api.OK}, {"o; a o; b o; c a b; d b a; x o; e x c d", "e", 2, api.OK}, {"o; a o; b o; c a b; d b a; x o; e c x d", "e", 2, api.OK}, {"a; b; p a b; q b a; c; r p c; s q c; t r s", "t", 2, api.OK},
		{"a; b; c; d; e; f; g; h; s a b; t b c; u c d; v d e; w e f; x f g; y g h; z h a; n s t u v w x y z", "n", 8, api.OK},
		{example, "o", 0, api.ErrNone}, {example, "a", 0, api.ErrNone}, {example, "c", 0, api.ErrNone}, {example, "y", 0, api.ErrNone}, {ring, "z", 0, api.ErrNone}, {"a; b a; c a b; d b", "d", 0, api.ErrNone},
		{"a; b a; c a b; d c", "d", 0, api.ErrC3}, {"a; b a; c a b; d a; e c d", "e", 0, api.ErrC3}, {ring + "; v w", "v", 0, api.ErrC3}, {ring + "; v w; u a v", "u", 0, api.ErrC3},
		{example, "z", 0, api.ErrNone}, {example, "", 0, api.ErrNone},
	} {
		g := heirs(x.text)
		l, e := Cycle(g, x.name)
		if e != x.e || e != api.OK && l != nil {
			t.Errorf("Cycle(%s; %s) = %v, %d; expected %d", x.text, x.name, l, e, x.e)
		}
		if e != api.OK {
			continue
		}
		all, _ := Lists(g, x.name)
		if !circular(all, l) || x.names > 0 && len(l) != x.names || VerifyCycle(g, x.name, l) != api.OK {
			t.Errorf("Cycle(%s; %s) = %v", x.text, x.name, l)
		}
	}
}

// P7.5
func TestVerifyCycle(t *testing.T) {
	long := "a; m; b; x a m b; y b a; w x y"
	for _, x := range []struct {
		text, name, list string
		want             api.Errno
	}{
		{example, "e", "a b", api.OK}, {example, "e", "b a", api.OK}, {ring, "w", "a b c", api.OK}, {ring, "w", "b c a", api.OK}, {ring, "w", "c a b", api.OK}, {long, "w", "a b", api.OK}, {long, "w", "a m b", api.OK}, {long, "w", "b a m", api.OK},
		{example, "e", "", api.ErrCycle}, {example, "e", "a", api.ErrCycle}, {example, "e", "o", api.ErrCycle}, {example, "e", "a a", api.ErrCycle}, {example, "e", "a b a b", api.ErrCycle}, {example, "e", "a b a", api.ErrCycle}, {example, "e", "a a b", api.ErrCycle}, {long, "w", "a m b a b", api.ErrCycle}, {ring, "w", "a b c a b c", api.ErrCycle},
		{example, "e", "c d", api.ErrCycle}, {example, "e", "c a", api.ErrCycle}, {example, "e", "a b o", api.ErrCycle}, {example, "e", "c a b", api.ErrCycle}, {example, "e", "c d b a", api.ErrCycle}, {example, "e", "o a b", api.ErrCycle}, {example, "e", "b o a", api.ErrCycle}, {ring, "w", "a c b", api.ErrCycle}, {ring, "w", "a b", api.ErrCycle}, {ring, "w", "b a", api.ErrCycle}, {ring, "w", "x a b c", api.ErrCycle}, {ring, "w", "a y b c", api.ErrCycle}, {long, "w", "m b", api.ErrCycle}, {long, "w", "m a b", api.ErrCycle},
		{example, "e", "e c", api.ErrCycle}, {example, "e", "a z", api.ErrCycle}, {example, "e", "z a", api.ErrCycle}, {example, "e", "a b z", api.ErrCycle}, {example, "e", "y z", api.ErrCycle}, {example, "e", "a x", api.ErrCycle}, {ring, "w", "w a", api.ErrCycle},
		{example, "c", "", api.ErrCycle}, {example, "c", "a b", api.ErrCycle}, {example, "c", "b a", api.ErrCycle}, {example, "o", "", api.ErrCycle}, {example, "o", "o", api.ErrCycle}, {example, "o", "o o", api.ErrCycle}, {example, "o", "a b", api.ErrCycle}, {example, "d", "a b", api.ErrCycle}, {ring, "z", "c a", api.ErrCycle},
		{ring + "; v w", "v", "a b c", api.ErrC3}, {ring + "; v w", "v", "", api.ErrC3}, {ring + "; v w; u v", "u", "a b c", api.ErrC3}, {example, "z", "a b", api.ErrNone}, {example, "z", "", api.ErrNone},
	} {
		if e := VerifyCycle(heirs(x.text), x.name, strings.Fields(x.list)); e != x.want {
			t.Errorf("VerifyCycle(%s; %s, %s) = %d; expected %d", x.text, x.name, x.list, e, x.want)
		}
	}
	if e := VerifyCycle(heirs(example), "e", []string{"a", ""}); e != api.ErrCycle {
		t.Errorf("VerifyCycle with an empty name = %d", e)
	}
	if e := VerifyCycle(heirs(example), "e", slices.Repeat([]string{"a", "b"}, 1<<12)); e != api.ErrCycle {
		t.Errorf("VerifyCycle of a long list = %d", e)
	}
}

// The examples of the chapter that are not in the tables.
func TestExamples(t *testing.T) {
	g := heirs(example)
	if l, e := Cycle(g, "e"); e != api.OK || !slices.Equal(l, strings.Fields("a b")) && !slices.Equal(l, strings.Fields("b a")) {
		t.Errorf("Cycle(e) = %v, %d", l, e)
	}
	l, e := Linearize(heirs("<object>; <shape>@a <object>; <leaf>@a <shape>@a"), "<leaf>@a")
	if e != api.OK || !slices.Equal(l, []string{"<leaf>@a", "<shape>@a", "<object>"}) {
		t.Errorf("Linearize(<leaf>@a) = %v, %d", l, e)
	}
}
