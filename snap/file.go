package snap

import (
	"drover/api"
	"drover/disk"
	"drover/wire"
)

// The checkpoint's file begins with a frame that tells its number and how many pieces there are; behind it is a frame of each piece, and nothing else. It comes to be under another name, and is called by its own when all of it is synced: so what is found under that name is whole, whatever crashes there were.
const (
	own   = "snap" // all names that begin so are this layer's
	name  = own
	spare = own + ".new"
)

const (
	numberBytes = 8
	headBytes   = 2 * numberBytes
	sizeBytes   = 4 // of a frame, which tell how many are in it
	aheadBytes  = 8 // of a frame, ahead of those that are in it
)

// replace puts a file of these bytes in the place of the checkpoint's. The old one holds till the last operation, and from it on the new one.
func replace(d *disk.Disk, b []byte) api.Errno {
	// What a crash has left under the spare name would stand ahead of them.
	if e := d.Remove(spare); e != api.OK && e != api.ErrNone {
		return e
	}
	if e := d.Append(spare, b); e != api.OK {
		return e
	}
	if e := d.Sync(spare); e != api.OK {
		return e
	}
	return d.Rename(spare, name)
}

// encode answers the bytes of the checkpoint's file, which are never more than a file may have.
func encode(n int64, pieces ...[]byte) []byte {
	b, _ := wire.Frame(append(numberOut(n), numberOut(int64(len(pieces)))...))
	for _, piece := range pieces {
		frame, _ := wire.Frame(piece)
		b = append(b, frame...)
	}
	return b
}

// decode answers what a file of these bytes holds, and whether that is a checkpoint.
func decode(b []byte) (int64, [][]byte, bool) {
	n, pieces, ok := unpack(b)
	if !ok || !numbered(n) || tooMany(pieces...) {
		return 0, nil, false
	}
	return n, pieces, true
}

// unpack answers the number and the pieces that are told in b, and whether these are all that there is.
func unpack(b []byte) (int64, [][]byte, bool) {
	head, b, ok := open(b)
	if !ok || len(head) != headBytes {
		return 0, nil, false
	}
	var pieces [][]byte
	for len(b) > 0 {
		var piece []byte
		if piece, b, ok = open(b); !ok {
			return 0, nil, false
		}
		pieces = append(pieces, piece)
	}
	count := numberIn(head[numberBytes:])
	return numberIn(head[:numberBytes]), pieces, int64(len(pieces)) == count
}

// open answers what is in the frame that b begins with, what of b is behind it, and whether there is one.
func open(b []byte) ([]byte, []byte, bool) {
	// All that is behind a frame would be copied at each piece, were it handed on: so the frame alone is.
	size := aheadBytes + numberIn(b[:min(len(b), sizeBytes)])
	frame := b[:min(int64(len(b)), size)]
	inside, _, e := wire.Open(frame)
	return inside, b[len(frame):], e == api.OK
}

// numberOut answers the bytes of n, the lowest first.
func numberOut(n int64) []byte {
	b := make([]byte, numberBytes)
	for i := range b {
		b[i] = byte(n >> (8 * i))
	}
	return b
}

func numberIn(b []byte) int64 {
	n := int64(0)
	for i, x := range b {
		n |= int64(x) << (8 * i)
	}
	return n
}
