package log

import (
	"porter/api"
	"porter/code"
	"porter/frame"
)

// pack: a message's record.
func pack(m api.Msg) ([]byte, api.Errno) {
	payload, e := code.Encode(m)
	if e != api.OK {
		return nil, e
	}
	return frame.Seal(payload)
}

// unpack: the message of the record with which some bytes begin, and how many bytes the record has.
func unpack(b []byte) (api.Msg, int, api.Errno) {
	payload, size, e := frame.Open(b)
	if e != api.OK {
		return api.Msg{}, 0, e
	}
	m, e := code.Decode(payload)
	if e != api.OK {
		return api.Msg{}, 0, e
	}
	return m, size, api.OK
}

// find: the messages of all records with which some bytes begin, and how many bytes these records have.
func find(b []byte) ([]api.Msg, int) {
	var records []api.Msg
	at := 0
	for at < len(b) {
		m, size, e := unpack(b[at:])
		if e != api.OK {
			break
		}
		records = append(records, m)
		at += size
	}
	return records, at
}
