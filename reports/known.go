package reports

import (
	"warden/api"
	"warden/source"
	"warden/states"
	"warden/steps"
)

// known is what is known of a thread or handler by itself.
type known struct {
	handler bool
	code    steps.Code
	reached []states.Reached
}

// knownOf goes through all states of an item.
func knownOf(item api.Item) known {
	code := steps.Of(item)
	return known{handler: item.Handler, code: code, reached: states.Of(code)}
}

// lookThrough goes through all states of all items of a source, once for all that asks for them.
func lookThrough(src string) ([]known, api.Errno) {
	items, errno := source.Unfold(src)
	if errno != api.OK {
		return nil, errno
	}
	all := []known{}
	for _, item := range items {
		one := knownOf(item)
		all = append(all, one)
	}
	return all, api.OK
}
