package c3

import "iter"

// merger is lists that are being merged.
type merger struct {
	lists  [][]string     // what is left of them, without those that are empty
	behind map[string]int // how often a name stands in them behind the first element
}

func newMerger(all iter.Seq[[]string]) *merger {
	m := &merger{behind: map[string]int{}}
	for l := range all {
		if len(l) == 0 {
			continue
		}
		m.lists = append(m.lists, l)
		for _, name := range l[1:] {
			m.behind[name]++
		}
	}
	return m
}

// merge consumes the lists, and tells whether it came to their ends. A name that a list has twice is never a candidate.
func (m *merger) merge() ([]string, bool) {
	var merged []string
merging:
	for len(m.lists) > 0 {
		for _, l := range m.lists {
			if first := l[0]; m.behind[first] == 0 {
				merged = append(merged, first)
				m.take(first)
				continue merging
			}
		}
		return nil, false
	}
	return merged, true
}

// take removes a candidate from the lists.
func (m *merger) take(name string) {
	var left [][]string
	for _, l := range m.lists {
		if l[0] == name {
			l = l[1:]
			if len(l) == 0 {
				continue
			}
			m.behind[l[0]]--
		}
		left = append(left, l)
	}
	m.lists = left
}
