// Package source reads the texts of programs: it tells whether a text is a source, and unfolds the bodies of its threads and handlers.
package source

import "warden/api"

// nowhere is the place of a fault where there is none.
const nowhere = -1

// Check tells whether a text is a source that can be unfolded; if not, why, and where it fails.
func Check(src string) (api.Errno, int) {
	_, errno, at := read(src)
	return errno, at
}

// Unfold gives the threads and handlers of a source by their numbers, or the error of Check.
func Unfold(src string) ([]api.Item, api.Errno) {
	items, errno, _ := read(src)
	return items, errno
}

// read makes each test only when those ahead of it are passed: the later ones lean on that.
func read(src string) ([]api.Item, api.Errno, int) {
	if len(src) > api.MaxText {
		return nil, api.ErrLong, 0
	}
	at := faultOfText(src)
	if at != nowhere {
		return nil, api.ErrText, at
	}
	p := split(src)
	at = p.faultOfNames()
	if at != nowhere {
		return nil, api.ErrName, at
	}
	if !p.unfoldFunctions() {
		return nil, api.ErrRound, 0
	}
	items, big := p.unfoldItems()
	if big != nowhere {
		return nil, api.ErrBig, big
	}
	return items, api.OK, 0
}
