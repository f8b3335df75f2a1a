package book

import (
	"maps"
	"slices"

	"jackfield/api"
)

// holding is reserved patterns, each with its owner.
type holding map[string]string

// heldBy is what is held after the records of a journal, the snapshot first.
func heldBy(records [][]byte) (holding, error) {
	list, err := GetList(records[0])
	if err != nil {
		return nil, err
	}
	held := holding{}
	for _, r := range list {
		held[r.Name] = r.Owner
	}
	for _, record := range records[1:] {
		d, err := GetDeed(record)
		if err != nil {
			return nil, err
		}
		if err := held.apply(d); err != nil {
			return nil, err
		}
	}
	return held, nil
}

// apply does a deed whose pattern and owner are right, or refuses it and leaves all as it was.
func (h holding) apply(d api.Deed) error {
	if d.Release {
		return h.release(d)
	}
	return h.reserve(d)
}

func (h holding) reserve(d api.Deed) error {
	owner, there := h[d.Name]
	switch {
	case there && owner != d.Owner:
		return api.ErrTaken
	case !there && len(h) >= api.MaxNames:
		return api.ErrFull
	}
	h[d.Name] = d.Owner
	return nil
}

func (h holding) release(d api.Deed) error {
	owner, there := h[d.Name]
	switch {
	case !there:
		return api.ErrNone
	case owner != d.Owner:
		return api.ErrOwner
	}
	delete(h, d.Name)
	return nil
}

// list is what is held, in increasing order by pattern.
func (h holding) list() []api.Reservation {
	out := make([]api.Reservation, 0, len(h))
	for _, pattern := range slices.Sorted(maps.Keys(h)) {
		out = append(out, api.Reservation{Name: pattern, Owner: h[pattern]})
	}
	return out
}
