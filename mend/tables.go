package mend

import (
	"assay/api"
	"assay/forest"
	"assay/graph"
	"assay/store"
)

// each is what a closure makes of the slots of a table. It is handed them rising, so that it may keep in mind what lower ones came to.
func each[T any](slots int, will func(slot int) T) []T {
	l := make([]T, slots)
	for slot := range l {
		l[slot] = will(slot)
	}
	return l
}

// tags is the tags as they will be: those that count, and at all other slots the empty one.
func tags(s *store.Store, g *graph.Graph) []api.Tag {
	im := s.Image()
	names := map[string]struct{}{} // of those that count
	return each(im.Geom().Tags, func(slot int) api.Tag {
		// What is free or torn reads as the empty tag, which has no name.
		tag, _ := im.Tag(slot)
		_, twice := names[tag.Name]
		if tag.Name == "" || twice || !whole(s, g, tag.Key) {
			return api.Tag{}
		}
		names[tag.Name] = struct{}{}
		return tag
	})
}

// whole tells whether the closure of a key is there.
func whole(s *store.Store, g *graph.Graph, key api.Digest) bool {
	slot, ok := s.Find(key)
	return ok && g.Whole(slot)
}

// snaps is the snapshots as they will be: those that count, with the parents that are left to them, and at all other slots the empty one.
func snaps(s *store.Store) []api.Snap {
	im := s.Image()
	slots := im.Geom().Snaps
	left := forest.Of(each(slots, func(slot int) forest.Row {
		// What is free or torn reads as the empty snapshot, whose id is none.
		snap, _ := im.Snap(slot)
		_, layer := s.Find(snap.Layer)
		return forest.Row{There: snap.ID != 0, Layer: layer, Snap: snap}
	}))
	return each(slots, func(slot int) api.Snap {
		if !left.Kept[slot] {
			return api.Snap{}
		}
		snap, _ := im.Snap(slot)
		snap.Parent = left.Parent[slot]
		return snap
	})
}
