package lookup

import (
	"slices"

	"porter/api"
	"porter/tuple"
)

// trace is facts that remember where they were asked for users.
type trace struct {
	*Facts
	asked map[place]struct{}
}

// Users: by the tuples.
func (s trace) Users(object, relation string) ([]string, api.Errno) {
	s.asked[place{object, relation}] = struct{}{}
	return s.Facts.Users(object, relation)
}

// tuples: those that were told, in order.
func (s trace) tuples() []api.Tuple {
	var list []api.Tuple
	for at := range s.asked {
		for _, user := range s.users[at] {
			list = append(list, api.Tuple{Object: at[0], Relation: at[1], User: user})
		}
	}
	slices.SortFunc(list, tuple.Compare)
	return list
}

// without is facts but for one tuple.
type without struct {
	*Facts
	gone api.Tuple
}

// Users: by the tuples that are left.
func (s without) Users(object, relation string) ([]string, api.Errno) {
	users, e := s.Facts.Users(object, relation)
	if object == s.gone.Object && relation == s.gone.Relation {
		users = slices.DeleteFunc(users, func(user string) bool { return user == s.gone.User })
	}
	return users, e
}
