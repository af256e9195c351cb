// Package paths: where packages lie.
package paths

// Outermost is the outermost folder, and the path of the site.
const Outermost = ""

// In tells the path of the package of a name that lies in a folder.
func In(folder string, name string) string {
	if folder == Outermost {
		return name
	}
	return folder + "/" + name
}

// Folder tells the folder of a path; of the outermost, that itself.
func Folder(path string) string {
	for i := len(path) - 1; i >= 0; i-- {
		if path[i] == '/' {
			return path[:i]
		}
	}
	return Outermost
}
