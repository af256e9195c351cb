// Package stocks: what packages there are, and what they need.
package stocks

import (
	"hoist/api"
	"hoist/names"
	"hoist/needs"
	"hoist/pieces"
	"hoist/versions"
)

// Entry is a package in one version, with its needs by rising names.
type Entry struct {
	Name    string
	Version versions.Version
	Needs   []needs.Need
}

// Stock has entries, no two of one name and one version.
type Stock struct {
	entries []Entry
}

// Parse tells the stock that a text is, or what is wrong with it.
func Parse(text string) (Stock, api.Errno) {
	if len(text) > api.MaxStock {
		return Stock{}, api.ErrLong
	}
	entries, ok := parseEntries(text)
	if !ok {
		return Stock{}, api.ErrText
	}
	// Only now: what is no stock at a later place is ErrText all the same.
	if hasTwice(entries) {
		return Stock{}, api.ErrTwice
	}
	return Stock{entries: entries}, api.OK
}

func parseEntries(text string) ([]Entry, bool) {
	if text == "" {
		return nil, true
	}
	texts := pieces.Split(text, ';')
	if len(texts) > api.MaxEntries {
		return nil, false
	}
	var entries []Entry
	for _, one := range texts {
		entry, ok := parseEntry(one)
		if !ok {
			return nil, false
		}
		entries = append(entries, entry)
	}
	return entries, true
}

func parseEntry(text string) (Entry, bool) {
	head, list, hasNeeds := pieces.Cut(text, ':')
	name, version, hasVersion := pieces.Cut(head, '@')
	if !hasVersion || !names.IsName(name) {
		return Entry{}, false
	}
	v, ok := versions.Parse(version)
	if !ok {
		return Entry{}, false
	}
	if !hasNeeds {
		return Entry{Name: name, Version: v}, true
	}
	needed, ok := needs.ParseList(list)
	if !ok {
		return Entry{}, false
	}
	return Entry{Name: name, Version: v, Needs: needed}, true
}

func hasTwice(entries []Entry) bool {
	for i, entry := range entries {
		if needs.HasTwice(entry.Needs) {
			return true
		}
		for _, earlier := range entries[:i] {
			if earlier.Name == entry.Name && earlier.Version == entry.Version {
				return true
			}
		}
	}
	return false
}

// Fitting tells the entries that have a need's name and fit its range.
func (s Stock) Fitting(n needs.Need) []Entry {
	var fitting []Entry
	for _, entry := range s.entries {
		if entry.Name == n.Name && n.Range.Fits(entry.Version) {
			fitting = append(fitting, entry)
		}
	}
	return fitting
}

// Find tells the entry of a name and a version, and whether there is one.
func (s Stock) Find(name string, version versions.Version) (Entry, bool) {
	for _, entry := range s.entries {
		if entry.Name == name && entry.Version == version {
			return entry, true
		}
	}
	return Entry{}, false
}
