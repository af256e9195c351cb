// Package names: names of packages.
package names

const longest = 3

// IsName tells whether a text is a name.
func IsName(text string) bool {
	if text == "" || len(text) > longest {
		return false
	}
	return LettersAhead(text) == len(text)
}

// LettersAhead tells how many letters stand ahead of the first byte that is
// none.
func LettersAhead(text string) int {
	for i := 0; i < len(text); i++ {
		if text[i] < 'a' || text[i] > 'z' {
			return i
		}
	}
	return len(text)
}
