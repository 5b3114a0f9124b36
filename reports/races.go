package reports

import (
	"warden/api"
	"warden/steps"
)

// visits says of an item and a cell, by the numbers of sets of locks, which of them it can hold where it reads or writes the cell. The places don't matter, so that there are few visits to compare, however many states there are.
type visits struct {
	writes [steps.Sets]bool
	either [steps.Sets]bool // reads or writes
}

// races gives the reports of cells that two can be at, one of them writing.
func races(all []known) []api.Report {
	reports := []api.Report{}
	for cell := 0; cell < api.Cells; cell++ {
		if raceAt(all, cell) {
			reports = append(reports, api.Report{Kind: api.Race, Item: nobody, Place: cell})
		}
	}
	return reports
}

// raceAt tells whether there is a race at a cell.
func raceAt(all []known, cell int) bool {
	before := []visits{}
	for _, one := range all {
		its := one.visitsTo(cell)
		// A handler may be on two processors at once, a thread may not.
		if one.handler && its.clash(its) {
			return true
		}
		for _, others := range before {
			if its.clash(others) {
				return true
			}
		}
		before = append(before, its)
	}
	return false
}

// visitsTo finds the visits of an item to a cell.
func (k known) visitsTo(cell int) visits {
	found := visits{}
	for _, at := range k.reached {
		what := k.code.At(at.State.Place)
		named := k.code.Number(at.State.Place)
		set := at.State.Held.Number()
		if (what == 'r' || what == 'w') && named == cell && set >= 0 && set < steps.Sets {
			found.either[set] = true
			found.writes[set] = found.writes[set] || what == 'w'
		}
	}
	return found
}

// clash tells whether two can be at the cell at once, and one of them writes: no lock that both hold keeps them apart.
func (v visits) clash(other visits) bool {
	for first, here := range v.either {
		for second, there := range other.either {
			if here && there && first&second == 0 && (v.writes[first] || other.writes[second]) {
				return true
			}
		}
	}
	return false
}
