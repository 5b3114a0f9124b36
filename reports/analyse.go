// Package reports tells what may go wrong with a source, and shows it.
package reports

import (
	"warden/api"
	"warden/steps"
)

// none stands where a kind of report would be, and there is none.
const none = 0

// nobody stands where the number of an item would be, in the reports of what goes wrong between several.
const nobody = -1

// Analyse gives the reports of a source.
func Analyse(src string) ([]api.Report, api.Errno) {
	all, errno := lookThrough(src)
	if errno != api.OK {
		return nil, errno
	}
	reports := alone(all)
	for _, ring := range rings(all) {
		reports = append(reports, ring)
	}
	for _, race := range races(all) {
		reports = append(reports, race)
	}
	return reports, api.OK
}

// alone gives the reports of what goes wrong with items by themselves.
func alone(all []known) []api.Report {
	kinds := [][]int{}
	for _, one := range all {
		its := one.kinds()
		kinds = append(kinds, its)
	}
	return inOrder(kinds)
}

// kinds gives of each place of an item the kind of what may go wrong there, or none. One kind is enough: what stands at a place can go wrong in one way alone.
func (k known) kinds() []int {
	kinds := make([]int, k.code.End()+1)
	for _, at := range k.reached {
		place := at.State.Place
		kind := kindAt(k.code, at.State)
		if kind != none && place >= 0 && place < len(kinds) {
			kinds[place] = kind
		}
	}
	return kinds
}

// kindAt gives the kind of what goes wrong if a step is done in a state, or none.
func kindAt(code steps.Code, s steps.State) int {
	switch code.Fault(s) {
	case 'D':
		return api.Double
	case 'U':
		return api.Unheld
	case 'S':
		return api.Sleep
	case 'E':
		return api.End
	case 'I':
		return api.Flag
	}
	return none
}

// inOrder makes reports of the kinds that were found by items and places.
func inOrder(kinds [][]int) []api.Report {
	reports := []api.Report{}
	for kind := api.Double; kind <= api.Flag; kind++ {
		for item, its := range kinds {
			for place, found := range its {
				if found == kind {
					reports = append(reports, api.Report{Kind: kind, Item: item, Place: place})
				}
			}
		}
	}
	return reports
}
