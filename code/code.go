// Package code writes messages as bytes, each in just one way, and reads them.
package code

import "porter/api"

// MaxText is how many bytes a text has at most.
const MaxText = 128

// maxInt is how many bytes a number has at most.
const maxInt = 10

// PutInt: a list with a number behind it, in new memory.
func PutInt(list []byte, n int64) []byte {
	own := make([]byte, len(list), len(list)+maxInt)
	copy(own, list)
	return appendInt(own, n)
}

// appendInt: the same, in the memory of the list: for a list of one's own.
func appendInt(list []byte, n int64) []byte {
	// The sign goes to the lowest bit: so numbers a little below 0 are short, too.
	u := uint64(n)<<1 ^ uint64(n>>63)
	for u >= 128 {
		list = append(list, byte(u)|128)
		u >>= 7
	}
	return append(list, byte(u))
}

// GetInt: the number with which some bytes begin, and how many bytes it has.
func GetInt(b []byte) (int64, int, api.Errno) {
	u := uint64(0)
	for i, x := range b {
		// Nine bytes hold 63 bits: of the tenth one only the lowest has room.
		if i == maxInt-1 && x > 1 {
			return 0, 0, api.ErrByte
		}
		u |= uint64(x&127) << (7 * i)
		if x >= 128 {
			continue
		}
		// A nought on top would be a second way to write the number.
		if x == 0 && i > 0 {
			return 0, 0, api.ErrByte
		}
		return int64(u>>1) ^ -int64(u&1), i + 1, api.OK
	}
	return 0, 0, api.ErrShort
}

// Encode: a message's bytes.
func Encode(m api.Msg) (list []byte, code api.Errno) {
	defer func() {
		if reason := recover(); reason != nil {
			list, code = nil, reason.(api.Errno)
		}
	}()
	w := &writer{}
	w.message(m)
	if len(w.list) > api.MaxFrame {
		return nil, api.ErrLong
	}
	return w.list, api.OK
}

// Decode: the message of some bytes.
func Decode(b []byte) (m api.Msg, code api.Errno) {
	if len(b) > api.MaxFrame {
		return api.Msg{}, api.ErrLong
	}
	defer func() {
		if reason := recover(); reason != nil {
			m, code = api.Msg{}, reason.(api.Errno)
		}
	}()
	r := &reader{left: b}
	m = r.message()
	if len(r.left) > 0 {
		return api.Msg{}, api.ErrTrail
	}
	return m, api.OK
}
