package cluster

import (
	"porter/api"
	"porter/code"
	"porter/frame"
	"porter/net"
)

// wire is the network, as whoever drives the cluster sees it: what stands in its row are messages in frames.
type wire struct {
	net *net.Net
}

func newWire(nodes int) (*wire, api.Errno) {
	n, e := net.New(nodes)
	if e != api.OK {
		return nil, e
	}
	return &wire{n}, api.OK
}

// Len: how many packets are on their way.
func (w *wire) Len() int { return w.net.Len() }

// Drop: a packet is lost.
func (w *wire) Drop(i int) api.Errno {
	_, e := w.net.Deliver(i)
	return e
}

// Copy: a packet is on its way once more.
func (w *wire) Copy(i int) api.Errno { return w.net.Copy(i) }

// Spoil: a bit of a packet is turned; once.
func (w *wire) Spoil(i, bit int) api.Errno {
	if packets := w.net.Packets(); i >= 0 && i < len(packets) {
		if _, whole := unpack(packets[i].Bytes); !whole {
			return api.ErrTwice
		}
	}
	return w.net.Flip(i, bit)
}

// send: a message is on its way. One for which there is no room is lost like any other: who wants an answer asks again.
func (w *wire) send(m api.Msg) {
	payload, e := code.Encode(m)
	if e != api.OK {
		return
	}
	if sealed, e := frame.Seal(payload); e == api.OK {
		w.net.Send(net.Packet{From: m.From, To: m.To, Bytes: sealed})
	}
}

// take: the message of a packet, which isn't on its way any more; and whether the packet is whole.
func (w *wire) take(i int) (api.Msg, bool, api.Errno) {
	p, e := w.net.Deliver(i)
	if e != api.OK {
		return api.Msg{}, false, e
	}
	m, whole := unpack(p.Bytes)
	return m, whole, api.OK
}

// unpack: the message of a packet's bytes, and whether there is one.
func unpack(b []byte) (api.Msg, bool) {
	payload, size, e := frame.Open(b)
	// A sum finds each bit that is turned, but for one of the length: then it may be the sum of fewer bytes by chance.
	if e != api.OK || size != len(b) {
		return api.Msg{}, false
	}
	m, e := code.Decode(payload)
	return m, e == api.OK
}
