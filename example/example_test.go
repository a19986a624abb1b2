package example_test

import (
	"testing"

	"dynpos/api"
	parts "dynpos/design"
	"dynpos/example"
	"dynpos/voyage"
)

func TestVesselIsValid(t *testing.T) {
	if e := voyage.Check(example.Vessel()); e != api.OK {
		t.Errorf("error %d", e)
	}
	if !parts.Independent(example.Vessel().Design) {
		t.Error("the groups have a common cause")
	}
}
