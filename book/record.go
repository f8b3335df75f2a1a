package book

import (
	"slices"
	"strings"

	"jackfield/api"
	"jackfield/fields"
	"jackfield/label"
)

// Kinds of deeds.
const (
	reserving = 1
	releasing = 2
)

const (
	pairLayout = "tt" // a pattern and its owner
	deedLayout = "b" + pairLayout
)

// PutDeed is a deed's bytes.
func PutDeed(d api.Deed) ([]byte, error) {
	if err := check(d.Name, d.Owner); err != nil {
		return nil, err
	}
	kind := reserving
	if d.Release {
		kind = releasing
	}
	return fields.Encode(deedLayout, fields.Cell{N: kind}, fields.Cell{S: d.Name}, fields.Cell{S: d.Owner})
}

// GetDeed is the deed of bytes.
func GetDeed(b []byte) (api.Deed, error) {
	cells, err := fields.Decode(deedLayout, b)
	if err != nil {
		return api.Deed{}, api.ErrName
	}
	kind, d := cells[0].N, api.Deed{Name: cells[1].S, Owner: cells[2].S}
	if kind != reserving && kind != releasing {
		return api.Deed{}, api.ErrName
	}
	if err := check(d.Name, d.Owner); err != nil {
		return api.Deed{}, err
	}
	d.Release = kind == releasing
	return d, nil
}

// PutList is a snapshot's bytes.
func PutList(list []api.Reservation) ([]byte, error) {
	if err := checkList(list); err != nil {
		return nil, err
	}
	cells := []fields.Cell{{N: len(list)}}
	for _, r := range list {
		cells = append(cells, fields.Cell{S: r.Name}, fields.Cell{S: r.Owner})
	}
	return fields.Encode(listLayout(len(list)), cells...)
}

// GetList is the list of a snapshot's bytes.
func GetList(b []byte) ([]api.Reservation, error) {
	if len(b) == 0 {
		return nil, api.ErrName
	}
	cells, err := fields.Decode(listLayout(int(b[0])), b)
	if err != nil {
		return nil, api.ErrName
	}
	var list []api.Reservation
	for pair := range slices.Chunk(cells[1:], len(pairLayout)) {
		list = append(list, api.Reservation{Name: pair[0].S, Owner: pair[1].S})
	}
	if checkList(list) != nil {
		return nil, api.ErrName
	}
	return list, nil
}

func listLayout(size int) string { return "b" + strings.Repeat(pairLayout, size) }

// check asks a pattern and an owner.
func check(pattern, owner string) error {
	if err := label.Check(pattern); err != nil {
		return err
	}
	if len(owner) < 1 || len(owner) > api.MaxWho {
		return api.ErrName
	}
	return nil
}

func checkList(list []api.Reservation) error {
	if len(list) > api.MaxNames {
		return api.ErrFull
	}
	for i, r := range list {
		if err := check(r.Name, r.Owner); err != nil {
			return err
		}
		if i > 0 && r.Name <= list[i-1].Name {
			return api.ErrName
		}
	}
	return nil
}
