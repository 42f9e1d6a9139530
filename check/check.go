// Package check: which configs and upper blocks may be: see DOC.md.
package check

import (
	"slices"

	"tributary/api"
)

const (
	maxTimeout = 8
	maxWindow  = 8
	maxDrift   = 100
	minStep    = 2
	maxStep    = 20
	maxMost    = 4096
)

// Config tells whether a config may be.
func Config(c api.Config) bool {
	return within(c.Timeout, 1, maxTimeout) &&
		within(c.Window, 1, maxWindow) &&
		within(c.Drift, 0, maxDrift) &&
		within(c.Step, minStep, maxStep) &&
		within(c.Most, 1, maxMost)
}

// Chain tells whether an upper chain may be.
func Chain(chain []api.Upper) bool {
	if !within(len(chain), 1, api.MaxUpper) || !First(chain[0]) {
		return false
	}
	for i, b := range chain[1:] {
		if !Next(chain[i].Time, b) {
			return false
		}
	}
	return true
}

// First tells whether a block may be the first one of an upper chain.
func First(b api.Upper) bool { return within(b.Time, 0, api.MaxStart) && small(b) }

// Next tells whether a block may stand behind one of this time.
func Next(time int, b api.Upper) bool {
	return within(b.Time, time+1, time+api.MaxGap) && small(b)
}

// small tells whether a block holds no more than it may.
func small(b api.Upper) bool {
	return len(b.Txs) <= api.MaxTxs && len(b.Logs) <= api.MaxTxs &&
		!slices.ContainsFunc(b.Txs, func(x api.Tx) bool { return len(x.Data) > api.MaxData }) &&
		!slices.ContainsFunc(b.Logs, func(s string) bool { return len(s) > api.MaxData })
}

func within(n, least, most int) bool { return n >= least && n <= most }
