// Package spread tells whether shards are on the cartridges they should be on. It is not a layer: arch and check ask it.
package spread

import (
	"slices"

	"kist/api"
	"kist/cat"
)

// Well reports whether no place of e is on a cartridge that is retired in c, and no two places of a group are on one.
func Well(e api.Entry, c *cat.Catalog) bool {
	for group := range slices.Chunk(e.Places, api.N) {
		for i, place := range group {
			twice := slices.ContainsFunc(group[:i], func(other api.Place) bool { return other.Cart == place.Cart })
			if twice || c.Retired(place.Cart) {
				return false
			}
		}
	}
	return true
}
