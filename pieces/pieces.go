// Package pieces: texts taken apart and put together.
package pieces

// Split tells the pieces of a text that stand between its separators: always
// one more than there are separators, so that a piece can be empty.
func Split(text string, separator byte) []string {
	var list []string
	start := 0
	for i := 0; i < len(text); i++ {
		if text[i] == separator {
			list = append(list, text[start:i])
			start = i + 1
		}
	}
	return append(list, text[start:])
}

// Cut tells what stands ahead of the first separator of a text and what stands
// behind it, and whether there is one.
func Cut(text string, separator byte) (string, string, bool) {
	for i := 0; i < len(text); i++ {
		if text[i] == separator {
			return text[:i], text[i+1:], true
		}
	}
	return text, "", false
}

// Join tells the text of all pieces with the separator between each two.
func Join(list []string, separator string) string {
	text := ""
	for i, piece := range list {
		if i > 0 {
			text += separator
		}
		text += piece
	}
	return text
}
