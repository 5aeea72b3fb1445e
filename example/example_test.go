package example

import (
	"testing"

	"seismonet/api"
	"seismonet/inventory"
	"seismonet/picker"
	"seismonet/record"
	"seismonet/rule"
	"seismonet/solution"
)

func TestExampleIsValid(t *testing.T) {
	u := Setup()
	if solution.Validate(u.Settings) != api.OK || !picker.Valid(u.Picking) || rule.Validate(u.Policy) != api.OK || !inventory.Valid(Inventory()) {
		t.Error("not valid")
	}
	for _, r := range Records(api.Position{X: 7, Y: 12, Z: 3}, 10*api.Second+123456, 500) {
		g := api.Segment{Start: r.Start, Rate: r.Rate, Samples: r.Samples}
		if l, e := picker.Segment(u.Picking, r.Source, g); !record.Valid(r) || len(l) != 1 || e != api.OK {
			t.Error(r.Source, l, e)
		}
	}
}
