package ring

import (
	"strconv"

	"porter/api"
)

// Hash: a text's place on the ring.
func Hash(s string) uint32 {
	h := uint32(2166136261)
	for i := range len(s) {
		h ^= uint32(s[i])
		h *= 16777619
	}
	// Texts that differ in their last bytes alone, as those of points do, would lie side by side till here.
	h ^= h >> 16
	h *= 2246822507
	h ^= h >> 13
	h *= 3266489909
	return h ^ h>>16
}

// Slot: the slot of an object.
func Slot(object string) int { return int(Hash(object) % api.Slots) }

// point is a node's place on the ring.
type point struct {
	place uint32
	node  int
}

// pointsOf: the points of so many nodes, those of the least node ahead.
func pointsOf(nodes, points int) []point {
	ring := make([]point, 0, nodes*points)
	for node := range nodes {
		for p := range points {
			place := Hash("node " + strconv.Itoa(node) + " point " + strconv.Itoa(p))
			ring = append(ring, point{place, node})
		}
	}
	return ring
}

// ownerOf: the node of the point that is met first from a place on, upwards and round the ring.
func ownerOf(place uint32, ring []point) int {
	first := ring[0]
	for _, p := range ring {
		// Ways are reckoned modulo 2^32: to a point below the place it leads over the top. Of points at one place the one ahead stays.
		if p.place-place < first.place-place {
			first = p
		}
	}
	return first.node
}
