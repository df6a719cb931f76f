package warren

import "warren/api"

// The steps of a walk that are no names.
const (
	here = "."
	back = ".."
)

// isName tells whether a text may be an entry's name.
func isName(text string) bool {
	if len(text) == 0 || len(text) > api.MaxName || text == here || text == back {
		return false
	}
	for i := range len(text) {
		if c := text[i]; c < 33 || c > 126 || c == '/' {
			return false
		}
	}
	return true
}

// checkNames tells what keeps a list from being the names of a walk.
func checkNames(names []string) api.Errno {
	if len(names) > api.MaxNames {
		return api.ErrMany
	}
	for _, name := range names {
		if name != here && name != back && !isName(name) {
			return api.ErrName
		}
	}
	return api.OK
}
