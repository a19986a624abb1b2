package example

import (
	"testing"

	"dynpos/api"
	parts "dynpos/design"
	"dynpos/voyage"
)

func TestVesselIsValid(t *testing.T) {
	if e := voyage.Check(Vessel()); e != api.OK {
		t.Errorf("error %d", e)
	}
	if !parts.Independent(Vessel().Design) {
		t.Error("the groups have a common cause")
	}
}
