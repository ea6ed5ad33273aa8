package table

import (
	"demurrage/api"
)

// tables are the tables of one kind, by its number.
type tables interface{ kind() int }

// bullets pay all back at the end, equals the same part each time; levels pay the same each time.
type (
	bullets struct{}
	equals  struct{}
	levels  struct{}
)

func (bullets) kind() int { return api.TBullet }

func (equals) kind() int { return api.TEqual }

func (levels) kind() int { return api.TLevel }

// find is the tables of a kind, or nil, if there is no such kind.
func find(kind int) tables {
	for _, t := range []tables{bullets{}, equals{}, levels{}} {
		if t.kind() == kind {
			return t
		}
	}
	return nil
}
