package lex

import "skerry/api"

// recut returns the pieces of the changed text, of which only those around the splice are cut anew.
func recut(text string, l []api.Piece, s api.Splice, changed string) (m []api.Piece, at int, e api.Errno) {
	defer func() {
		if r, ok := recover().(refusal); ok {
			m, at, e = nil, r.at, r.e
		}
	}()
	old, now := newCutter(text), newCutter(changed)
	n := unreached(l, s.At)
	for _, p := range l[:n] {
		old.pass(p)
		now.pass(p)
		m = append(m, p)
	}
	shift := len(changed) - len(text)
	for p := range now.pieces() {
		m = append(m, p)
		for n < len(l) && old.at+shift < now.at {
			old.pass(l[n])
			n++
		}
		// From here on both texts are the same, and are cut in the same way.
		if now.at >= s.At+len(s.Ins) && now.at == old.at+shift && now.operand == old.operand {
			break
		}
	}
	if now.done() {
		return m, 0, api.OK
	}
	for _, p := range l[n:] {
		p.At += shift
		now.pass(p)
		m = append(m, p)
	}
	return m, 0, api.OK
}

// unreached is the number of pieces that are so far ahead of a place that no rule looked at a byte behind it.
func unreached(l []api.Piece, place int) int {
	n := 0
	for n < len(l) && l[n].At+l[n].Len+api.MaxReach+1 < place {
		n++
	}
	return n
}

// kept compares the pieces of two texts of which the second one is longer by shift.
func kept(l, m []api.Piece, shift int) api.Kept {
	var k api.Kept
	n := min(len(l), len(m))
	for k.Front < n && l[k.Front] == m[k.Front] {
		k.Front++
	}
	for k.Front+k.Back < n {
		p := l[len(l)-1-k.Back]
		p.At += shift
		if p != m[len(m)-1-k.Back] {
			break
		}
		k.Back++
	}
	return k
}
