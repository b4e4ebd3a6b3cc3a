package code

import "porter/api"

// reader is what is left to be read of a message's bytes. What can't be read gives up: it panics with an error's number, which Decode catches.
type reader struct {
	left []byte
}

// message: all of a message, field by field as it is written.
func (r *reader) message() api.Msg {
	var m api.Msg
	m.Kind = int(r.number())
	m.From = int(r.number())
	m.To = int(r.number())
	m.Id = r.number()
	m.Rev = r.number()
	m.Epoch = r.number()
	m.Slot = int(r.number())
	m.Flag = r.truth()
	m.Nodes = getList(r, func() int {
		return int(r.number())
	})
	m.Muts = getList(r, func() api.Mutation {
		gone := r.truth()
		return api.Mutation{Delete: gone, Tuple: r.tuple()}
	})
	m.Pre = getList(r, func() api.Condition {
		absent := r.truth()
		return api.Condition{Absent: absent, Tuple: r.tuple()}
	})
	m.Rows = getList(r, func() api.Row {
		t := r.tuple()
		since := r.number()
		return api.Row{Tuple: t, Since: since, Until: r.number()}
	})
	return m
}

// getList: how many items a list has, and then item by item what get reads of it.
func getList[T any](r *reader, get func() T) []T {
	var items []T
	for range r.count(api.MaxList) {
		items = append(items, get())
	}
	return items
}

// number: the next number.
func (r *reader) number() int64 {
	n, size, code := GetInt(r.left)
	if code != api.OK {
		panic(code)
	}
	r.left = r.left[size:]
	return n
}

// count: the next number, of which there may be so many at most.
func (r *reader) count(most int64) int {
	n := r.number()
	if n < 0 || n > most {
		panic(api.ErrLong)
	}
	return int(n)
}

// truth: the next byte, as true or false.
func (r *reader) truth() bool {
	if len(r.left) == 0 {
		panic(api.ErrShort)
	}
	x := r.left[0]
	if x > 1 {
		panic(api.ErrKind)
	}
	r.left = r.left[1:]
	return x == 1
}

// tuple: the next three texts.
func (r *reader) tuple() api.Tuple {
	object := r.text()
	relation := r.text()
	return api.Tuple{Object: object, Relation: relation, User: r.text()}
}

// text: the number of its bytes, and these.
func (r *reader) text() string {
	size := r.count(MaxText)
	if size > len(r.left) {
		panic(api.ErrShort)
	}
	s := string(r.left[:size])
	r.left = r.left[size:]
	return s
}
