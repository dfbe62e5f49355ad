package maglev

import (
	"slices"

	"linkboy/api"
	"linkboy/ports"
	"linkboy/stride"
)

const nobody = -1 // stands in the slot of a place that nobody has yet

// filled is the slots of backends, which take places in turns.
func filled(backends []api.Point, size int) ([]int, error) {
	slots := slices.Repeat([]int{nobody}, size)
	takes := make([]func(), len(backends))
	for who := range backends {
		take, err := taker(slots, backends[who], who)
		if err != nil {
			return nil, err
		}
		takes[who] = take
	}
	// Each time one place is taken, so all are after as many times as there are places.
	for times := range size {
		takes[times%len(takes)]()
	}
	return slots, nil
}

// taker lets a backend take the first place of its own order that nobody has yet, each time it is called.
func taker(slots []int, backend api.Point, who int) (func(), error) {
	order, err := stride.Of(ports.Put(backend), len(slots))
	if err != nil {
		return nil, err
	}
	cursor := order.Cursor()
	return func() {
		place := cursor.Next()
		// Nobody gives a place back, so the cursor needn't come again to those that it found taken.
		for slots[place] != nobody {
			place = cursor.Next()
		}
		slots[place] = who
	}, nil
}
