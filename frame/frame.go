// Package frame puts payloads into frames, with their length and a sum ahead, and takes them out.
package frame

import "porter/api"

const (
	wordSize   = 4
	headSize   = 2 * wordSize // the length, and behind it the sum
	castagnoli = 0x82f63b78
)

// Sum: the CRC-32C of all the parts, one behind the other.
func Sum(parts ...[]byte) uint32 {
	sum := ^uint32(0)
	for _, part := range parts {
		for i := range len(part) {
			sum = stir(sum, part[i])
		}
	}
	return ^sum
}

// stir: a sum that has gone through one byte more.
func stir(sum uint32, b byte) uint32 {
	sum ^= uint32(b)
	for range 8 {
		odd := sum&1 == 1
		sum >>= 1
		if odd {
			sum ^= castagnoli
		}
	}
	return sum
}

// Seal: the frame of a payload.
func Seal(payload []byte) ([]byte, api.Errno) {
	if len(payload) > api.MaxFrame {
		return nil, api.ErrLong
	}
	b := make([]byte, 0, headSize+len(payload))
	b = putWord(b, uint32(len(payload)))
	// The length is summed too: a length that is spoilt is told even where the bytes behind it are whole.
	b = putWord(b, Sum(b, payload))
	return append(b, payload...), api.OK
}

// Open: the payload of the frame with which some bytes begin, and how many bytes the frame has.
func Open(b []byte) ([]byte, int, api.Errno) {
	if len(b) < headSize {
		return nil, 0, api.ErrShort
	}
	// The length is held against the limit as a word: as an int it might be below 0 on a small machine.
	length := word(b)
	if length > api.MaxFrame {
		return nil, 0, api.ErrLong
	}
	size := headSize + int(length)
	if len(b) < size {
		return nil, 0, api.ErrShort
	}
	payload := b[headSize:size]
	if Sum(b[:wordSize], payload) != word(b[wordSize:]) {
		return nil, 0, api.ErrSum
	}
	return append([]byte(nil), payload...), size, api.OK
}

// Cut: the payloads of all frames with which some bytes begin, how many bytes these frames have, and what is wrong with what follows.
func Cut(b []byte) ([][]byte, int, api.Errno) {
	var payloads [][]byte
	at := 0
	for at < len(b) {
		payload, size, code := Open(b[at:])
		if code != api.OK {
			return payloads, at, code
		}
		payloads = append(payloads, payload)
		at += size
	}
	return payloads, at, api.OK
}

// putWord: a list with a word's four bytes behind it, the highest first.
func putWord(list []byte, w uint32) []byte {
	for i := range wordSize {
		list = append(list, byte(w>>(8*(wordSize-1-i))))
	}
	return list
}

// word: the word of the first four bytes.
func word(b []byte) uint32 {
	w := uint32(0)
	for i := range wordSize {
		w = w<<8 | uint32(b[i])
	}
	return w
}
