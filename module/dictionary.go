package module

import "skerry/api"

// maxEntries is how many entries a table has at most.
const maxEntries = 2000

// dictionary is a table: its entries in order, and what each name denotes.
type dictionary struct {
	entries []api.Export
	named   map[string]api.Export
	slots   map[string]bool // the names of the generic functions that slots alone introduce
}

func newDictionary() *dictionary {
	return &dictionary{named: map[string]api.Export{}, slots: map[string]bool{}}
}

// dictionaryOf is a dictionary in which the first entry counts of several with the same name.
func dictionaryOf(table []api.Export) *dictionary {
	d := newDictionary()
	for _, x := range table {
		d.add(x)
	}
	return d
}

// add adds an entry, unless there is one with its name. It tells whether the name denotes just this then.
func (d *dictionary) add(x api.Export) bool {
	if old, ok := d.named[x.Name]; ok {
		return old == x
	}
	d.named[x.Name] = x
	d.entries = append(d.entries, x)
	return true
}

// exports tells whether a name may be exported.
func (d *dictionary) exports(name string) bool {
	x, ok := d.named[name]
	return ok && !isPredefined(x)
}

func predefinedClasses() [11]string {
	return [11]string{
		"<object>", "<integer>", "<boolean>", "<class>", "<function>",
		"<condition>", "<serious-condition>", "<warning>", "<restart>", "<error>", "<fault>",
	}
}

// isPredefined tells whether an entry of the table of a source is that of a predefined class. All others have full names with an @.
func isPredefined(x api.Export) bool {
	return x.Name == x.Full
}
