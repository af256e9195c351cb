// Package needs: needs, alone and in lists by rising names.
package needs

import (
	"hoist/api"
	"hoist/names"
	"hoist/pieces"
	"hoist/ranges"
)

// Need is a name and a range.
type Need struct {
	Name  string
	Range ranges.Range
	text  string // as a site tells its needs as they were given
}

// Parse tells the need that a text is, and whether it is one.
func Parse(text string) (Need, bool) {
	length := names.LettersAhead(text) // no range begins with a letter
	name := text[:length]
	if !names.IsName(name) {
		return Need{}, false
	}
	wanted, ok := ranges.Parse(text[length:])
	if !ok {
		return Need{}, false
	}
	return Need{Name: name, Range: wanted, text: text}, true
}

// ParseList tells the one or more needs that a text is, by rising names, and
// whether it is that. Needs of one name are kept, all of them.
func ParseList(text string) ([]Need, bool) {
	texts := pieces.Split(text, ',')
	if len(texts) > api.MaxNeeds {
		return nil, false
	}
	var list []Need
	for _, one := range texts {
		n, ok := Parse(one)
		if !ok {
			return nil, false
		}
		list = With(list, n)
	}
	return list, true
}

// With tells a list with one more need, in its place by rising names.
func With(list []Need, added Need) []Need {
	var all []Need
	placed := false
	for _, n := range list {
		if !placed && added.Name < n.Name {
			all = append(all, added)
			placed = true
		}
		all = append(all, n)
	}
	if !placed {
		all = append(all, added)
	}
	return all
}

// Without tells a list without its needs of a name.
func Without(list []Need, name string) []Need {
	var others []Need
	for _, n := range list {
		if n.Name != name {
			others = append(others, n)
		}
	}
	return others
}

// Has tells whether a list has a need of a name.
func Has(list []Need, name string) bool {
	for _, n := range list {
		if n.Name == name {
			return true
		}
	}
	return false
}

// HasTwice tells whether a list has two needs of one name.
func HasTwice(list []Need) bool {
	for i := 1; i < len(list); i++ {
		if list[i-1].Name == list[i].Name { // by rising names, so these are neighbours
			return true
		}
	}
	return false
}

// Text tells a list of needs as text.
func Text(list []Need) string {
	var texts []string
	for _, n := range list {
		texts = append(texts, n.text)
	}
	return pieces.Join(texts, ",")
}
