// Package paths: where packages lie.
package paths

import (
	"hoist/names"
	"hoist/pieces"
)

// Outermost is the outermost folder, and the path of the site.
const Outermost = ""

// In tells the path of the package of a name that lies in a folder.
func In(folder string, name string) string {
	if folder == Outermost {
		return name
	}
	return folder + "/" + name
}

// Folder tells the folder of a path; of the outermost, that itself.
func Folder(path string) string {
	for i := len(path) - 1; i >= 0; i-- {
		if path[i] == '/' {
			return path[:i]
		}
	}
	return Outermost
}

// Name tells the last name of a path.
func Name(path string) string {
	for i := len(path) - 1; i >= 0; i-- {
		if path[i] == '/' {
			return path[i+1:]
		}
	}
	return path
}

// IsUnder tells whether a package's path begins with that of another and a
// slash.
func IsUnder(path string, other string) bool {
	beginning := other + "/"
	return len(path) >= len(beginning) && path[:len(beginning)] == beginning
}

// IsPath tells whether a text is the path of a package, in whatever tree.
func IsPath(text string) bool {
	for _, piece := range pieces.Split(text, '/') {
		if !names.IsName(piece) {
			return false
		}
	}
	return true
}
