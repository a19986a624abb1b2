package clone_test

import (
	"reflect"
	"testing"

	"dynpos/api"
	"dynpos/clone"
)

func TestPower(t *testing.T) {
	make := func() api.Power {
		return api.Power{Closed: []bool{true}, Sources: []api.Running{{State: 1}}, Limits: []int{5}, Broken: []api.Part{{Kind: 1}}}
	}
	p := make()
	c := clone.Power(p)
	if !reflect.DeepEqual(c, p) {
		t.Errorf("%v, not %v", c, p)
	}
	c.Closed[0], c.Sources[0].State, c.Limits[0], c.Broken[0].Kind = false, 2, 6, 2
	if !reflect.DeepEqual(p, make()) {
		t.Errorf("the copy shares memory: %v", p)
	}
}
