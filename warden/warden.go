// Package warden: programs that take locks, looked through and played: see DOC.md.
package warden

import (
	"warden/api"
	"warden/machine"
	"warden/reports"
	"warden/source"
)

// Check tells whether a text is a source (P3).
func Check(src string) (api.Errno, int) { return source.Check(src) }

// Unfold gives the threads and handlers of a source (P4).
func Unfold(src string) ([]api.Item, api.Errno) { return source.Unfold(src) }

// Run plays a source on a machine, by a script (P5, P6).
func Run(src string, cpus int, script string) (string, api.Errno) {
	return machine.Run(src, cpus, script)
}

// Analyse tells what may go wrong (P7, P8, P10).
func Analyse(src string) ([]api.Report, api.Errno) { return reports.Analyse(src) }

// Show gives a script that shows a report (P9).
func Show(src string, r api.Report) (string, api.Errno) { return reports.Show(src, r) }

// Edges tells which locks are held when which are taken (P10).
func Edges(src string) ([]api.Edge, api.Errno) { return reports.Edges(src) }
