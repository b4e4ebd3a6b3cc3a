package code

import "porter/api"

// writer is a message's bytes, as far as they are written. What can't be written gives up: it panics with an error's number, which Encode catches.
type writer struct {
	list []byte
}

// message: all of a message, field by field.
func (w *writer) message(m api.Msg) {
	w.number(int64(m.Kind))
	w.number(int64(m.From))
	w.number(int64(m.To))
	w.number(m.Id)
	w.number(m.Rev)
	w.number(m.Epoch)
	w.number(int64(m.Slot))
	w.truth(m.Flag)
	putList(w, m.Nodes, func(n int) {
		w.number(int64(n))
	})
	putList(w, m.Muts, func(x api.Mutation) {
		w.truth(x.Delete)
		w.tuple(x.Tuple)
	})
	putList(w, m.Pre, func(x api.Condition) {
		w.truth(x.Absent)
		w.tuple(x.Tuple)
	})
	putList(w, m.Rows, func(x api.Row) {
		w.tuple(x.Tuple)
		w.number(x.Since)
		w.number(x.Until)
	})
}

// putList: how many items a list has, and then item by item what put writes of it.
func putList[T any](w *writer, items []T, put func(T)) {
	if len(items) > api.MaxList {
		panic(api.ErrLong)
	}
	w.number(int64(len(items)))
	for _, item := range items {
		put(item)
	}
}

// number: a number's bytes.
func (w *writer) number(n int64) {
	w.list = appendInt(w.list, n)
}

// truth: 1 for what is true, 0 for what is false.
func (w *writer) truth(is bool) {
	if is {
		w.list = append(w.list, 1)
	} else {
		w.list = append(w.list, 0)
	}
}

// tuple: its three texts.
func (w *writer) tuple(t api.Tuple) {
	w.text(t.Object)
	w.text(t.Relation)
	w.text(t.User)
}

// text: how many bytes it has, and these.
func (w *writer) text(s string) {
	if len(s) > MaxText {
		panic(api.ErrLong)
	}
	w.number(int64(len(s)))
	w.list = append(w.list, s...)
}
