package syntax

// distinct tells whether all strings are different, and are as they have to be.
func distinct(l []string, right func(string) bool) bool {
	seen := map[string]bool{}
	for _, s := range l {
		if seen[s] || !right(s) {
			return false
		}
		seen[s] = true
	}
	return true
}
