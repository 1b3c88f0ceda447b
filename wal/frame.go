package wal

import (
	"slices"

	"foliot/api"
	"foliot/sum"
)

// draft is frames that are to stand behind the log's end.
type draft struct {
	start uint64 // the log's end
	end   uint64 // that behind them
	first uint64 // where the first one of them begins
	room  uint64 // how many bytes they may have, with the rests ahead of them
	parts [][]byte
}

// add: a frame more, if there is room for it.
func (f *draft) add(kind int, data []byte) bool {
	rest := restAhead(f.end, len(data))
	at := f.end + uint64(rest)
	end := at + Head + uint64(len(data))
	if end-f.start > f.room {
		return false
	}
	if len(f.parts) == 0 {
		f.first = at
	}
	f.parts = append(f.parts, make([]byte, rest), headOf(at, kind, data), data)
	f.end = end
	return true
}

// toSegment: how many bytes there are from a place on to its segment's end.
func toSegment(at uint64) int { return SegSize - int(at%SegSize) }

// restAhead: how many bytes stay free ahead of a frame of so many bytes of data, as they are too few for it.
func restAhead(at uint64, n int) int {
	if rest := toSegment(at); rest < Head+n {
		return rest
	}
	return 0
}

// headOf: the bytes ahead of a frame's data.
func headOf(at uint64, kind int, data []byte) []byte {
	n := uint64(len(data))
	return slices.Concat(number(n, 4), number(uint64(sumOf(at, kind, data)), 4), []byte{byte(kind)})
}

// sumOf: a frame's sum. Its place is in it, so that what an earlier round left is never taken for a frame of this one.
func sumOf(at uint64, kind int, data []byte) uint32 {
	return sum.CRC(number(at, 8), number(uint64(len(data)), 4), []byte{byte(kind)}, data)
}

// number: a number in so many bytes, the lowest first.
func number(n uint64, size int) []byte {
	b := make([]byte, size)
	for i := range b {
		b[i] = byte(n >> (8 * i))
	}
	return b
}

// numberOf: the number that bytes are.
func numberOf(b []byte) uint64 {
	var n uint64
	for i, x := range b {
		n |= uint64(x) << (8 * i)
	}
	return n
}

// readAll: the frames of a log's bytes, of which the first one has that place.
func readAll(at uint64, b []byte) ([]Frame, api.Errno) {
	var list []Frame
	for len(b) > 0 {
		n := min(toSegment(at), len(b))
		if !isRest(at, b) {
			f, e := read(at, b[:n])
			if e != api.OK {
				return nil, e
			}
			list = append(list, f)
			n = Head + len(f.Data)
		}
		b, at = b[n:], at+uint64(n)
	}
	return list, api.OK
}

// isRest: does no frame begin here, up to the segment's end?
func isRest(at uint64, b []byte) bool {
	if toSegment(at) < Head {
		return true
	}
	return len(b) >= Head && !slices.ContainsFunc(b[:Head], func(x byte) bool { return x != 0 })
}

// read: the frame with which bytes begin; it must not reach beyond them.
func read(at uint64, b []byte) (Frame, api.Errno) {
	if len(b) < Head {
		return Frame{}, api.ErrForm
	}
	n, kind := numberOf(b[:4]), int(b[8])
	if n > uint64(len(b)-Head) || kind < Batch || kind > Last {
		return Frame{}, api.ErrForm
	}
	data := b[Head : Head+int(n)]
	if numberOf(b[4:8]) != uint64(sumOf(at, kind, data)) {
		return Frame{}, api.ErrSum
	}
	return Frame{Kind: kind, Data: slices.Clone(data)}, api.OK
}
