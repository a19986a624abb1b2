// Package clone copies what several layers change.
package clone

import (
	"slices"

	"dynpos/api"
)

// Power returns a copy of a state of a switchboard that shares no memory with it.
func Power(p api.Power) api.Power {
	return api.Power{Closed: slices.Clone(p.Closed), Sources: slices.Clone(p.Sources), Limits: slices.Clone(p.Limits), Broken: slices.Clone(p.Broken)}
}
