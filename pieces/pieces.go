// Package pieces: texts taken apart.
package pieces

// Split tells the pieces of a text that stand between its separators: always
// one more than there are separators, so that a piece can be empty.
func Split(text string, separator byte) []string {
	var list []string
	start := 0
	for i := 0; i < len(text); i++ {
		if text[i] == separator {
			list = append(list, text[start:i])
			start = i + 1
		}
	}
	return append(list, text[start:])
}
