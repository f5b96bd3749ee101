package grave

import (
	"testing"

	"mortsafe/api"
)

// A loop over the lots, or over the free levels, can be left.
func TestLoopsCanBeLeft(t *testing.T) {
	h := begin(api.Yard{Sites: []api.Site{{Name: "v", Kind: api.SiteVault, Room: 2}}})
	h.put(api.Lot{Remain: "y"})
	h.put(api.Lot{Remain: "x"})
	for lot := range h.lots {
		if lot.Remain != "x" {
			t.Error(lot)
		}
		break
	}
	for level := range h.free(h.yard.Sites[0], api.Urn) {
		if level != 0 {
			t.Error(level)
		}
		break
	}
}
